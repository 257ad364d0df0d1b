package redo

import (
	"errors"
	"slices"

	"postbag/api"
)

// change is a change of a log's files.
type change struct {
	*Log
	ops    []api.Op
	record []byte
}

// refuse tells why the change can't be done; it asks in the document's order.
func (c change) refuse() error {
	switch {
	case c.Off():
		return api.ErrPower
	case slices.ContainsFunc(c.ops, c.isMisplaced):
		return api.ErrRange
	case c.mostFiles() > api.MaxFiles:
		return api.ErrFull
	case c.room() > c.Quota()-c.Used():
		return api.ErrQuota
	}
	return nil
}

func (c change) isMisplaced(op api.Op) bool {
	return op.Kind == api.OpAppend && op.At != c.size(op.Name)
}

// mostFiles is how many files there are at most while the change is done. What it removes further on doesn't make room for what it creates first: the disk would refuse that halfway.
func (c change) mostFiles() int {
	names, _ := c.Disk.List()
	files := len(names)
	most := files
	for _, op := range c.ops {
		switch there := slices.Contains(names, op.Name); {
		case op.Kind == api.OpRemove && there:
			files--
		case op.Kind != api.OpRemove && !there:
			files++
		}
		most = max(most, files)
	}
	return most
}

func (c change) room() int {
	n := len(c.record)
	for _, op := range c.ops {
		n += max(0, c.growth(op))
	}
	return n
}

func (c change) growth(op api.Op) int {
	size := c.size(op.Name)
	switch op.Kind {
	case api.OpAppend:
		return min(op.At, size) + len(op.Bytes) - size
	case api.OpReplace:
		return len(op.Bytes) - size
	}
	return 0
}

// size is how many bytes a file has; none, if it isn't there or can't be read.
func (c change) size(name string) int {
	n, err := c.Size(name)
	if err != nil {
		return 0
	}
	return n
}

func (c change) write() error { return c.Append(logName, c.record) }

// do must come to the same, however much of it was done before.
func (c change) do() error {
	for _, op := range c.ops {
		if err := (operation{c.Log, op}).do(); err != nil {
			return err
		}
	}
	return c.SyncDir()
}

// operation is one operation of a change.
type operation struct {
	*Log
	api.Op
}

func (o operation) do() error {
	switch o.Kind {
	case api.OpAppend:
		return run(o.create, o.cut, o.fill, o.sync)
	case api.OpReplace:
		return run(o.clear, o.fill, o.sync)
	}
	return o.remove()
}

func (o operation) isThere() bool {
	_, err := o.Size(o.Name)
	return !errors.Is(err, api.ErrNone)
}

func (o operation) create() error {
	if o.isThere() {
		return nil
	}
	return o.Create(o.Name)
}

// cut takes away what an earlier try put behind the place.
func (o operation) cut() error {
	if size, err := o.Size(o.Name); err != nil || size <= o.At {
		return err
	}
	return o.Truncate(o.Name, o.At)
}

func (o operation) clear() error {
	if !o.isThere() {
		return o.Create(o.Name)
	}
	return o.Truncate(o.Name, 0)
}

func (o operation) fill() error {
	if len(o.Bytes) == 0 {
		return nil
	}
	return o.Append(o.Name, o.Bytes)
}

func (o operation) sync() error { return o.Sync(o.Name) }

func (o operation) remove() error {
	if !o.isThere() {
		return nil
	}
	return o.Remove(o.Name)
}
