package redo_test

import (
	"bytes"
	"fmt"
	"maps"
	"math/rand"
	"slices"
	"strings"
	"testing"

	"postbag/api"
	"postbag/check"
	"postbag/disk"
	"postbag/redo"
)

// contents is the files of a disk with their bytes, the log among them; none, if the power is off.
func contents(d *disk.Disk) map[string][]byte {
	files := map[string][]byte{}
	names, _ := d.List()
	for _, name := range names {
		files[name], _ = d.Read(name)
	}
	return files
}

// behindOf is what the files are behind a change, said by their bytes.
func behindOf(files map[string][]byte, ops []api.Op) map[string][]byte {
	files = maps.Clone(files)
	for _, op := range ops {
		switch op.Kind {
		case api.OpAppend:
			old := files[op.Name]
			files[op.Name] = slices.Concat(old[:min(op.At, len(old))], op.Bytes)
		case api.OpReplace:
			files[op.Name] = op.Bytes
		case api.OpRemove:
			delete(files, op.Name)
		}
	}
	return files
}

func textOf(files map[string][]byte) string {
	var texts []string
	for _, name := range slices.Sorted(maps.Keys(files)) {
		if name != "redo" {
			texts = append(texts, fmt.Sprintf("%s=%s", name, files[name]))
		}
	}
	return strings.Join(texts, " ")
}

func behindText(l *redo.Log, ops []api.Op) string {
	return textOf(behindOf(contents(l.Disk), ops))
}

// plain is a log that does what the chapter says, sentence by sentence, on a disk of its own.
type plain struct {
	d    *disk.Disk
	dead bool
}

func plainRoom(d *disk.Disk, ops []api.Op) int {
	record, _ := check.Record(write(ops))
	n, old := len(record), contents(d)
	behind := behindOf(old, ops)
	for _, op := range ops {
		if op.Kind != api.OpRemove {
			n += max(0, len(behind[op.Name])-len(old[op.Name]))
		}
	}
	return n
}

func plainRefuse(d *disk.Disk, ops []api.Op) error {
	if d.Off() {
		return api.ErrPower
	}
	old := contents(d)
	for _, op := range ops {
		if op.Kind == api.OpAppend && op.At != len(old[op.Name]) {
			return api.ErrRange
		}
	}
	for i := range ops {
		if len(behindOf(old, ops[:i+1])) > api.MaxFiles {
			return api.ErrFull
		}
	}
	if d.Used()+plainRoom(d, ops) > d.Quota() {
		return api.ErrQuota
	}
	return nil
}

// try is a row of calls of a disk, written as texts: the first one that fails ends it.
func try(d *disk.Disk, name string, b []byte, calls string) error {
	for _, call := range strings.Fields(calls) {
		var err error
		switch call {
		case "create":
			err = d.Create(name)
		case "append":
			err = d.Append(name, b)
		case "empty":
			err = d.Truncate(name, 0)
		case "sync":
			err = d.Sync(name)
		case "remove":
			err = d.Remove(name)
		case "syncdir":
			err = d.SyncDir()
		default:
			err = d.Truncate(name, len(call)) // "xxx": to 3
		}
		if err != nil {
			return err
		}
	}
	return nil
}

func plainDo(d *disk.Disk, ops []api.Op) error {
	for _, op := range ops {
		old, there := contents(d)[op.Name]
		calls := ""
		switch {
		case op.Kind == api.OpRemove && there:
			calls = "remove"
		case op.Kind != api.OpRemove && !there:
			calls = "create"
		case op.Kind == api.OpReplace:
			calls = "empty"
		case op.Kind == api.OpAppend && len(old) > op.At && op.At == 0:
			calls = "empty"
		case op.Kind == api.OpAppend && len(old) > op.At:
			calls = strings.Repeat("x", op.At)
		}
		if len(op.Bytes) > 0 {
			calls += " append"
		}
		if op.Kind != api.OpRemove {
			calls += " sync"
		}
		if err := try(d, op.Name, op.Bytes, calls); err != nil {
			return err
		}
	}
	return d.SyncDir()
}

func (p *plain) commit(ops []api.Op) error {
	if p.dead {
		return api.ErrState
	}
	err := plainRefuse(p.d, ops)
	if err == nil {
		record, _ := check.Record(write(ops))
		err = try(p.d, "redo", record, "append sync")
	}
	if err == nil {
		err = plainDo(p.d, ops)
	}
	if err == nil {
		err = try(p.d, "redo", nil, "empty sync")
	}
	p.dead = err == api.ErrPower
	return err
}

func plainOpen(d *disk.Disk) (*plain, error) {
	b, err := d.Read("redo")
	if err != nil {
		return nil, err
	}
	quota := d.Quota()
	d.SetQuota(api.MaxQuota)
	list, _ := check.Records(b)
	if len(list) > 0 {
		if ops, is := redo.Ops(list[0]); is == nil {
			err = plainDo(d, ops)
		}
	}
	if err == nil && len(b) > 0 {
		err = try(d, "redo", nil, "empty sync")
	}
	d.SetQuota(quota)
	if err != nil {
		return nil, err
	}
	return &plain{d: d}, nil
}

func plainFormat(d *disk.Disk) (*plain, error) {
	if err := try(d, "redo", nil, "create syncdir"); err != nil {
		return nil, err
	}
	return &plain{d: d}, nil
}

// pair is a log and its model, each on its own disk, driven by the same calls.
type pair struct {
	t    *testing.T
	d, e *disk.Disk
	l    *redo.Log
	p    *plain
	row  []string
}

func newPair(t *testing.T, quota int) *pair {
	return &pair{t: t, d: newDisk(t, quota), e: newDisk(t, quota)}
}

func (p *pair) same(what string, got, want any) {
	p.t.Helper()
	if fmt.Sprint(got) != fmt.Sprint(want) {
		p.t.Fatalf("%s: %v, want %v; behind:\n%s", what, got, want, strings.Join(p.row, "\n"))
	}
}

// begin takes what Format or Open answered; a refused one leaves the logs that there are.
func (p *pair) begin(what string, l *redo.Log, err error, m *plain, want error) {
	p.t.Helper()
	p.same(what, err, want)
	if err == nil {
		p.l, p.p = l, m
	} else if l != nil {
		p.t.Fatalf("%s answers a log beside %v", what, err)
	}
}

func (p *pair) call(r *rand.Rand) {
	p.t.Helper()
	switch k := r.Intn(24); {
	case p.l == nil && k < 12 || k == 0:
		p.row = append(p.row, "Format")
		l, err := redo.Format(p.d)
		m, want := plainFormat(p.e)
		p.begin("Format", l, err, m, want)
	case k <= 3:
		p.row = append(p.row, "Open")
		l, err := redo.Open(p.d)
		m, want := plainOpen(p.e)
		p.begin("Open", l, err, m, want)
	case k <= 12 && p.l != nil:
		p.commit(r)
	case k <= 15:
		n := r.Intn(30) - 2
		p.row = append(p.row, fmt.Sprint("Arm ", n))
		p.d.Arm(n)
		p.e.Arm(n)
	case k <= 18:
		row := numbers(r)
		p.row = append(p.row, fmt.Sprint("Crash ", row))
		p.d.Crash(row)
		p.e.Crash(row)
	case k <= 20:
		n := r.Intn(400)
		p.row = append(p.row, fmt.Sprint("SetQuota ", n))
		p.same("SetQuota", p.d.SetQuota(n), p.e.SetQuota(n))
	default:
		p.meddle(r)
	}
	p.look(r)
}

func (p *pair) commit(r *rand.Rand) {
	p.t.Helper()
	ops := randomOps(r, 1+r.Intn(5), 6)
	for i, op := range ops {
		if op.Kind == api.OpAppend && r.Intn(12) > 0 {
			ops[i].At = len(contents(p.e)[op.Name])
		}
	}
	p.row = append(p.row, "Commit "+told(ops))
	n, err := p.l.Room(ops)
	p.same("Room's error", err, nil)
	p.same("Room", n, plainRoom(p.e, ops))
	p.same("Commit", p.l.Commit(ops), p.p.commit(ops))
}

// meddle does something to the disk beside the log.
func (p *pair) meddle(r *rand.Rand) {
	p.t.Helper()
	name := fmt.Sprint("f", r.Intn(6))
	if r.Intn(3) == 0 {
		name = "redo"
	}
	b := []byte("xyz")
	if r.Intn(3) > 0 {
		b, _ = check.Record(write(randomOps(r, 1+r.Intn(3), 6)))
		b = b[:len(b)-r.Intn(2)]
	}
	calls := []string{"create", "append", "empty", "sync", "remove", "syncdir", "append sync"}[r.Intn(7)]
	p.row = append(p.row, fmt.Sprintf("%s %q %q", calls, name, b))
	p.same(calls, try(p.d, name, b, calls), try(p.e, name, b, calls))
}

// look holds against each other all that can be seen.
func (p *pair) look(r *rand.Rand) {
	p.t.Helper()
	p.same("Off", p.d.Off(), p.e.Off())
	p.same("Steps", p.d.Steps(), p.e.Steps())
	p.same("Open steps", p.d.Open(), p.e.Open())
	p.same("Quota", p.d.Quota(), p.e.Quota())
	p.same("Used", p.d.Used(), p.e.Used())
	p.same("files", contents(p.d), contents(p.e))
	if p.l == nil {
		return
	}
	p.same("Dead", p.l.Dead(), p.p.dead)
	files := contents(p.e)
	delete(files, "redo")
	p.same("List", p.l.List(), slices.Sorted(maps.Keys(files)))
	name := []string{"f0", "f1", "f2", "f3", "f4", "f5", "redo", "", "F"}[r.Intn(9)]
	b, ok := p.l.Read(name)
	want, is := files[name]
	if ok != is || !bytes.Equal(b, want) {
		p.t.Fatalf("Read(%q) = %q, %v; want %q, %v", name, b, ok, want, is)
	}
}

// P6.1: random rows of calls, with losses of power at any step, and with a disk that others use, too.
func TestRandomRows(t *testing.T) {
	r := rand.New(rand.NewSource(61))
	for range 3000 {
		p := newPair(t, 50+r.Intn(400))
		for range 40 {
			p.call(r)
		}
	}
}

// P6.1: any row of calls that numbers tell.
func FuzzRows(f *testing.F) {
	f.Add(int64(1), 100)
	f.Add(int64(7), 3000)
	f.Fuzz(func(t *testing.T, seed int64, quota int) {
		r := rand.New(rand.NewSource(seed))
		p := newPair(t, max(0, min(quota, api.MaxQuota)))
		for range 60 {
			p.call(r)
		}
	})
}
