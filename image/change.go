package image

import (
	"bytes"
	"slices"
	"strings"

	"postbag/api"
)

// A change is files as they were and as they are now, rising by name.
type change struct {
	old, now []api.File
}

func (c change) ops() []api.Op {
	var ops []api.Op
	for _, name := range c.names() {
		if op, changes := c.op(name); changes {
			ops = append(ops, op)
		}
	}
	return ops
}

// names are all names, rising, each once.
func (c change) names() []string {
	var names []string
	for _, f := range slices.Concat(c.old, c.now) {
		names = append(names, f.Name)
	}
	slices.Sort(names)
	return slices.Compact(names)
}

// op is what makes a file what it is now; false, if it is that already.
func (c change) op(name string) (api.Op, bool) {
	was, wasThere := find(c.old, name)
	is, isThere := find(c.now, name)
	grows := wasThere || strings.HasPrefix(name, boxMark)
	switch {
	case !isThere:
		return api.Op{Kind: api.OpRemove, Name: name}, true
	case wasThere && bytes.Equal(was, is):
		return api.Op{}, false
	case grows && bytes.HasPrefix(is, was):
		return api.Op{Kind: api.OpAppend, Name: name, At: len(was), Bytes: is[len(was):]}, true
	}
	return api.Op{Kind: api.OpReplace, Name: name, Bytes: is}, true
}

// find is the bytes of the file of a name, and whether it is there.
func find(files []api.File, name string) ([]byte, bool) {
	i, isThere := slices.BinarySearchFunc(files, api.File{Name: name}, fileOrder)
	if !isThere {
		return nil, false
	}
	return files[i].Bytes, true
}
