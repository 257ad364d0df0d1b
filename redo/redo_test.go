package redo_test

import (
	"bytes"
	"errors"
	"fmt"
	"math"
	"slices"
	"strings"
	"testing"

	"postbag/api"
	"postbag/check"
	"postbag/disk"
	"postbag/redo"
)

func must(t *testing.T, errs ...error) {
	t.Helper()
	for i, err := range errs {
		if err != nil {
			t.Fatalf("call %d answers %v", i, err)
		}
	}
}

func newDisk(t *testing.T, quota int) *disk.Disk {
	t.Helper()
	d, err := disk.New(quota)
	must(t, err)
	return d
}

// newLog is a log on a disk of its own, with files "name=bytes".
func newLog(t *testing.T, quota int, files ...string) (*redo.Log, *disk.Disk) {
	t.Helper()
	d := newDisk(t, api.MaxQuota)
	l, err := redo.Format(d)
	must(t, err)
	for _, f := range files {
		name, b, _ := strings.Cut(f, "=")
		must(t, l.Commit([]api.Op{replace(name, b)}))
	}
	must(t, d.SetQuota(quota))
	return l, d
}

// filesOf is a log's files as a text.
func filesOf(l *redo.Log) string {
	var texts []string
	for _, name := range l.List() {
		b, ok := l.Read(name)
		texts = append(texts, fmt.Sprintf("%s=%s", name, b))
		if !ok {
			texts = append(texts, "(can't be read)")
		}
	}
	return strings.Join(texts, " ")
}

func logOf(t *testing.T, d *disk.Disk) string {
	t.Helper()
	b, err := d.Read("redo")
	must(t, err)
	return string(b)
}

func recordOf(t *testing.T, ops ...api.Op) []byte {
	t.Helper()
	record, err := check.Record(write(ops))
	must(t, err)
	return record
}

// P6.1: a log is begun: its file is there, empty and sure.
func TestFormat(t *testing.T) {
	d := newDisk(t, 0)
	l, err := redo.Format(d)
	must(t, err)
	if d.Steps() != 2 || d.Open() != 0 || l.Dead() || len(l.List()) != 0 || logOf(t, d) != "" {
		t.Errorf("%d steps, %d open, dead: %v, files %q, log %q", d.Steps(), d.Open(), l.Dead(), l.List(), logOf(t, d))
	}
	d.Crash(nil)
	if logOf(t, d) != "" {
		t.Error("the log isn't sure")
	}
}

// P6.1: Format answers the disk's errors.
func TestFormatRefused(t *testing.T) {
	d := newDisk(t, 100)
	must(t, d.Create("redo"), d.Append("redo", []byte("x")))
	refused := func(want error) {
		t.Helper()
		if l, err := redo.Format(d); err != want || l != nil {
			t.Errorf("Format answers %v, %v; want %v", l, err, want)
		}
	}
	refused(api.ErrExists)
	if logOf(t, d) != "x" {
		t.Error("a refused Format changed the log")
	}
	must(t, d.Remove("redo"))
	for i := range api.MaxFiles {
		must(t, d.Create(fmt.Sprint(i)))
	}
	refused(api.ErrFull)
	d = newDisk(t, 100)
	d.Arm(0)
	refused(api.ErrPower)
	refused(api.ErrPower)
	d.Crash([]int{9})
	d.Arm(1) // behind Create
	refused(api.ErrPower)
	d.Crash([]int{1})
	refused(api.ErrExists)
	d = nil
	refused(api.ErrNone)
}

// P6.1: Open of a disk without a log, and without power.
func TestOpenRefused(t *testing.T) {
	d := newDisk(t, 100)
	must(t, d.Create("redo.a"))
	refused := func(want error) {
		t.Helper()
		steps := 0
		if d != nil {
			steps = d.Steps()
		}
		if l, err := redo.Open(d); err != want || l != nil {
			t.Errorf("Open answers %v, %v; want %v", l, err, want)
		}
		if d != nil && d.Steps() != steps {
			t.Error("a refused Open did something")
		}
	}
	refused(api.ErrNone)
	must(t, d.Create("redo"))
	d.Arm(0)
	if err := d.SyncDir(); err != api.ErrPower {
		t.Fatal(err)
	}
	refused(api.ErrPower)
	d = nil
	refused(api.ErrNone)
}

// P6.1: what Open does with what it finds in the log.
func TestOpen(t *testing.T) {
	whole := string(recordOf(t, replace("a", "x"), appendTo("b", 1, "y"), remove("c")))
	other := string(recordOf(t, replace("a", "OTHER")))
	twice := string(recordOf(t, replace("a", "x"), replace("a", "y")))
	for _, k := range []struct {
		log, want string
		steps     int
	}{
		{"", "a=11 b=22 c=33", 0},
		{whole, "a=x b=2y", 3 + 3 + 1 + 1 + 2},
		{whole + other, "a=x b=2y", 10},
		{whole + "x", "a=x b=2y", 10},
		{whole[:len(whole)-1], "a=11 b=22 c=33", 2},
		{whole[:1], "a=11 b=22 c=33", 2},
		{whole[:8], "a=11 b=22 c=33", 2},
		{whole[:len(whole)-1] + "\x01", "a=11 b=22 c=33", 2},
		{"x" + whole, "a=11 b=22 c=33", 2},
		{twice, "a=11 b=22 c=33", 2},
		{twice + whole, "a=11 b=22 c=33", 2},
		{"\x00\x00\x00\x00\x00\x00\x00\x01", "a=11 b=22 c=33", 2},
		{"\x00\x00\x00\x00\x00\x00\x00\x01" + whole, "a=11 b=22 c=33", 2},
	} {
		_, d := newLog(t, 1000, "a=11", "b=22", "c=33")
		must(t, d.Append("redo", []byte(k.log)), d.Sync("redo"), d.SetQuota(17))
		steps := d.Steps()
		l, err := redo.Open(d)
		must(t, err)
		if got := filesOf(l); got != k.want || d.Steps()-steps != k.steps || logOf(t, d) != "" || d.Quota() != 17 || d.Open() != 0 || l.Dead() {
			t.Errorf("a log of %q: files %q, %d steps, log %q, quota %d, %d open; want %q, %d", k.log, got, d.Steps()-steps, logOf(t, d), d.Quota(), d.Open(), k.want, k.steps)
		}
		d.Crash(nil)
		l, err = redo.Open(d)
		must(t, err)
		if filesOf(l) != k.want {
			t.Errorf("a log of %q: behind a crash the files are %q", k.log, filesOf(l))
		}
	}
}

// P6.1: what Open does of each operation, whatever the file is.
func TestOpenDoesOperations(t *testing.T) {
	for _, k := range []struct {
		op    api.Op
		file  string // "-": none
		want  string
		steps int // of the operation itself
	}{
		{appendTo("a", 0, "xy"), "-", "a=xy", 3}, {appendTo("a", 0, ""), "-", "a=", 2}, {appendTo("a", 3, "xy"), "-", "a=xy", 3},
		{appendTo("a", 2, "xy"), "12", "a=12xy", 2}, {appendTo("a", 2, "xy"), "12xy", "a=12xy", 3}, {appendTo("a", 2, "xy"), "123", "a=12xy", 3},
		{appendTo("a", 2, "xy"), "1", "a=1xy", 2}, {appendTo("a", 2, ""), "12", "a=12", 1}, {appendTo("a", 2, ""), "123", "a=12", 2}, {appendTo("a", 0, ""), "123", "a=", 2},
		{replace("a", "xy"), "-", "a=xy", 3}, {replace("a", ""), "-", "a=", 2}, {replace("a", "xy"), "123", "a=xy", 3}, {replace("a", "xy"), "", "a=xy", 3}, {replace("a", ""), "123", "a=", 2}, {replace("a", ""), "", "a=", 2},
		{remove("a"), "-", "", 0}, {remove("a"), "123", "", 1},
	} {
		l, d := newLog(t, 1000)
		if k.file != "-" {
			must(t, l.Commit([]api.Op{replace("a", k.file)}))
		}
		must(t, d.Append("redo", recordOf(t, k.op)), d.Sync("redo"))
		steps := d.Steps()
		l, err := redo.Open(d)
		must(t, err)
		if got := filesOf(l); got != k.want || d.Steps()-steps != k.steps+3 {
			t.Errorf("%s of %q: %q by %d steps; want %q, %d", told([]api.Op{k.op}), k.file, got, d.Steps()-steps, k.want, k.steps+3)
		}
	}
}

// P6.1: the quota is the disk's own behind an Open, also behind one that the power cut, and within it MaxQuota.
func TestOpenAndQuota(t *testing.T) {
	for n := range 10 {
		_, d := newLog(t, 1000, "a=1")
		must(t, d.Append("redo", recordOf(t, replace("a", strings.Repeat("x", 300)), replace("b", "y"))), d.Sync("redo"), d.SetQuota(5))
		d.Arm(n)
		l, err := redo.Open(d)
		if (err != nil) != (n < 9) || n < 9 && (err != api.ErrPower || l != nil) || d.Quota() != 5 {
			t.Errorf("power behind %d steps: %v, %v, quota %d", n, l, err, d.Quota())
		}
		d.Crash([]int{n, n, n, n, n})
		if l, err = redo.Open(d); err != nil || filesOf(l) != "a="+strings.Repeat("x", 300)+" b=y" || d.Quota() != 5 {
			t.Errorf("then: %v, %v, quota %d", l, err, d.Quota())
		}
	}
}

// P6.1: the document's example, and a Commit of every kind.
func TestCommit(t *testing.T) {
	l, d := newLog(t, 1000)
	do := func(want string, steps int, ops ...api.Op) {
		t.Helper()
		before := d.Steps()
		must(t, l.Commit(ops))
		if got := filesOf(l); got != want || d.Steps()-before != steps || logOf(t, d) != "" || d.Open() != 0 || l.Dead() || d.Quota() != 1000 {
			t.Errorf("files %q by %d steps, %d open, dead %v; want %q, %d", got, d.Steps()-before, d.Open(), l.Dead(), want, steps)
		}
		d.Crash(nil)
		if got := filesOf(l); got != want {
			t.Errorf("behind a crash the files are %q", got)
		}
	}
	const own = 2 + 1 + 2 // the log's steps and SyncDir
	do("a=x b=y", own+6, replace("a", "x"), replace("b", "y"))
	do("a=xz b=y", own+2, appendTo("a", 1, "z"))
	do("a=xz b=y", own+1, appendTo("a", 2, ""))
	do("a=xz b=y c=w", own+3, appendTo("c", 0, "w"))
	do("a=xz b=y c=w d=", own+2, appendTo("d", 0, ""))
	do("a=xz b=y c=w d=q", own+2, appendTo("d", 0, "q"))
	do("a=xz b=y c=w d=", own+2, replace("d", ""))
	do("a=xz b=y c=w d=", own+2, replace("d", ""))
	do("a=xz b=y c=w", own+1, remove("d"))
	do("a=xz b=y c=w", own, remove("d"))
	do("a=xz c=w e=", own+1+2, remove("b"), replace("e", ""))
	do("", own+3, remove("e"), remove("c"), remove("a"))
}

// P6.1: the example: the power goes behind the log's Sync.
func TestExample(t *testing.T) {
	l, d := newLog(t, 1000)
	d.Arm(2)
	if err := l.Commit([]api.Op{replace("a", "x"), replace("b", "y")}); err != api.ErrPower || !l.Dead() {
		t.Errorf("Commit answers %v, dead: %v", err, l.Dead())
	}
	d.Crash(nil)
	l, err := redo.Open(d)
	must(t, err)
	if filesOf(l) != "a=x b=y" {
		t.Errorf("Open makes %q", filesOf(l))
	}
}

// full is a log whose disk has as many files as there may be: the log, and f0 and so on.
func full(t *testing.T) (*redo.Log, *disk.Disk) {
	t.Helper()
	l, d := newLog(t, 10000)
	for i := range api.MaxFiles - 1 {
		must(t, l.Commit([]api.Op{replace(fmt.Sprint("f", i), "x")}))
	}
	return l, d
}

// P6.1: more than MaxFiles files, the log among them, can't be there: not behind a change, and not while it is done.
func TestCommitFull(t *testing.T) {
	for _, k := range []struct {
		ops  []api.Op
		want error
	}{
		{[]api.Op{replace("new", "")}, api.ErrFull},
		{[]api.Op{appendTo("new", 0, "")}, api.ErrFull},
		{[]api.Op{replace("f3", "new")}, nil},
		{[]api.Op{appendTo("f3", 1, "new")}, nil},
		{[]api.Op{remove("f3")}, nil},
		{[]api.Op{remove("none")}, nil},
		{[]api.Op{remove("none"), replace("new", "")}, api.ErrFull},
		{[]api.Op{remove("f3"), replace("new", "")}, nil},
		{[]api.Op{remove("f3"), replace("new", ""), replace("newer", "")}, api.ErrFull},
		{[]api.Op{remove("f3"), remove("f62"), replace("new", ""), appendTo("newer", 0, "")}, nil},
		{[]api.Op{replace("new", ""), remove("f3")}, api.ErrFull},
		{[]api.Op{remove("f3"), replace("new", ""), replace("newer", ""), remove("f4")}, api.ErrFull},
	} {
		l, d := full(t)
		before, steps := filesOf(l), d.Steps()
		err := l.Commit(k.ops)
		if err != k.want || l.Dead() || logOf(t, d) != "" {
			t.Errorf("%s: %v, dead: %v; want %v", told(k.ops), err, l.Dead(), k.want)
		}
		if err != nil && (filesOf(l) != before || d.Steps() != steps) {
			t.Errorf("%s: a refused Commit changed the files", told(k.ops))
		}
	}
	l, _ := full(t)
	must(t, l.Commit([]api.Op{remove("f0")}), l.Commit([]api.Op{replace("new", "")}))
	if err := l.Commit([]api.Op{replace("newer", "")}); err != api.ErrFull {
		t.Errorf("a file too many: %v", err)
	}
}

// P6.1: how much room a change needs, and that a Commit has it just then.
func TestRoom(t *testing.T) {
	const head = 8 + 1         // the record's, and the count
	const each = 1 + 1 + 1 + 8 // of an operation with a name of one byte
	for _, k := range []struct {
		ops []api.Op
		n   int
	}{
		{[]api.Op{remove("a")}, head + each},
		{[]api.Op{remove("n")}, head + each},
		{[]api.Op{remove("none")}, head + each + 3},
		{[]api.Op{replace("a", "")}, head + each},
		{[]api.Op{replace("a", "xyz")}, head + each + 3},
		{[]api.Op{replace("a", "123456")}, head + each + 6 + 1},
		{[]api.Op{replace("n", "xyz")}, head + each + 3 + 3},
		{[]api.Op{replace("n", "")}, head + each},
		{[]api.Op{appendTo("a", 5, "xyz")}, head + each + 3 + 3},
		{[]api.Op{appendTo("a", 5, "")}, head + each},
		{[]api.Op{appendTo("n", 0, "xyz")}, head + each + 3 + 3},
		{[]api.Op{appendTo("e", 0, "xyz")}, head + each + 3 + 3},
		{[]api.Op{replace("a", ""), replace("n", "xy")}, head + 2*each + 2 + 2}, // what shrinks makes no room
		{[]api.Op{remove("a"), appendTo("e", 0, "xy")}, head + 2*each + 2 + 2},
		{[]api.Op{replace("n", "xy"), appendTo("a", 5, "z"), replace("e", "w")}, head + 3*each + 4 + 4},
	} {
		l, d := newLog(t, 1000, "a=12345", "e=")
		n, err := l.Room(k.ops)
		if n != k.n || err != nil {
			t.Errorf("Room(%s) = %d, %v; want %d", told(k.ops), n, err, k.n)
		}
		before, steps := filesOf(l), d.Steps()
		must(t, d.SetQuota(d.Used()+k.n-1))
		if err := l.Commit(k.ops); err != api.ErrQuota || filesOf(l) != before || d.Steps() != steps || l.Dead() {
			t.Errorf("%s without room: %v, %q", told(k.ops), err, filesOf(l))
		}
		must(t, d.SetQuota(0))
		if err := l.Commit(k.ops); err != api.ErrQuota || filesOf(l) != before {
			t.Errorf("%s with a quota of 0: %v, %q", told(k.ops), err, filesOf(l))
		}
		must(t, d.SetQuota(d.Used()+k.n))
		if err := l.Commit(k.ops); err != nil {
			t.Errorf("%s with room: %v", told(k.ops), err)
		}
	}
}

// P6.1: Room of an OpAppend at another place than the file's end, and Room without power or behind the log's death.
func TestRoomElsewhere(t *testing.T) {
	l, d := newLog(t, 1000, "a=12345")
	ask := func(op api.Op, want int) {
		t.Helper()
		if n, err := l.Room([]api.Op{op}); n != want || err != nil {
			t.Errorf("Room(%s) = %d, %v; want %d", told([]api.Op{op}), n, err, want)
		}
	}
	ask(appendTo("a", 3, ""), 20)
	ask(appendTo("a", 3, "xy"), 22)
	ask(appendTo("a", 3, "xyz"), 23+1)
	ask(appendTo("a", 0, "xyzxyz"), 26+1)
	ask(appendTo("a", 6, "xyz"), 23+3)
	ask(appendTo("a", api.MaxQuota, "xyz"), 23+3)
	ask(appendTo("n", 6, "xyz"), 23+3)
	if n, err := l.Room(nil); n != 0 || err != api.ErrForm {
		t.Errorf("Room(none) = %d, %v", n, err)
	}
	d.Arm(0)
	if err := l.Commit([]api.Op{remove("a")}); err != api.ErrPower || !l.Dead() {
		t.Errorf("%v, dead: %v", err, l.Dead())
	}
	ask(appendTo("a", 5, "xyz"), 23+3)
	ask(replace("a", "xyz"), 23+3)
	ask(remove("a"), 20)
	if n, err := l.Room([]api.Op{remove("A")}); n != 0 || err != api.ErrForm {
		t.Errorf("Room(remove A) = %d, %v", n, err)
	}
	d.Crash(nil)
	ask(replace("a", "xyz"), 23)
}

// P6.1: an OpAppend stands at the file's end, or the change is refused.
func TestCommitRange(t *testing.T) {
	l, d := newLog(t, 1000, "a=12345", "e=")
	for _, k := range []struct {
		ops  []api.Op
		want error
	}{
		{[]api.Op{appendTo("a", 4, "x")}, api.ErrRange}, {[]api.Op{appendTo("a", 6, "x")}, api.ErrRange}, {[]api.Op{appendTo("a", 0, "")}, api.ErrRange}, {[]api.Op{appendTo("a", 4, "")}, api.ErrRange},
		{[]api.Op{appendTo("e", 1, "x")}, api.ErrRange}, {[]api.Op{appendTo("n", 1, "x")}, api.ErrRange}, {[]api.Op{appendTo("a", api.MaxQuota, "")}, api.ErrRange},
		{[]api.Op{appendTo("a", 5, "x"), replace("b", ""), appendTo("n", 1, "")}, api.ErrRange},
	} {
		before, steps := filesOf(l), d.Steps()
		if err := l.Commit(k.ops); err != k.want || filesOf(l) != before || d.Steps() != steps || l.Dead() {
			t.Errorf("%s: %v, files %q, dead: %v", told(k.ops), err, filesOf(l), l.Dead())
		}
	}
}

// P6.1: errors are asked in their order: ErrState, ErrForm, ErrPower, ErrRange, ErrFull, ErrQuota.
func TestCommitOrder(t *testing.T) {
	wrongForm := []api.Op{remove("redo"), appendTo("new", 7, "")}
	wrongRange := []api.Op{replace("new", ""), appendTo("f0", 7, strings.Repeat("x", 20000))}
	tooMany := []api.Op{replace("new", strings.Repeat("x", 20000))}
	tooLong := []api.Op{replace("f0", strings.Repeat("x", 20000))}
	l, d := full(t)
	ask := func(ops []api.Op, want error, dead bool) {
		t.Helper()
		steps := d.Steps()
		if err := l.Commit(ops); err != want || l.Dead() != dead || d.Steps() != steps {
			t.Errorf("%s: %v, dead: %v; want %v, %v", told(ops), err, l.Dead(), want, dead)
		}
	}
	ask(wrongForm, api.ErrForm, false)
	ask(wrongRange, api.ErrRange, false)
	ask(tooMany, api.ErrFull, false)
	ask(tooLong, api.ErrQuota, false)
	d.Arm(0)
	ask(wrongForm, api.ErrForm, false)
	ask(wrongRange, api.ErrRange, false)
	ask(tooMany, api.ErrFull, false)
	ask(tooLong, api.ErrQuota, false)
	if err := d.SyncDir(); err != api.ErrPower {
		t.Fatal(err)
	}
	ask(wrongForm, api.ErrForm, false)
	ask(wrongRange, api.ErrPower, true)
	ask(wrongForm, api.ErrState, true)
	ask(tooLong, api.ErrState, true)
	d.Crash(nil)
	ask(wrongForm, api.ErrState, true)
	ask([]api.Op{remove("f0")}, api.ErrState, true)
}

// P6.1: a change that isn't in form is refused.
func TestCommitForm(t *testing.T) {
	l, d := newLog(t, api.MaxQuota, "a=1")
	before, steps := filesOf(l), d.Steps()
	for name, k := range formCases() {
		if k.is {
			if _, err := l.Room(k.ops); err != nil {
				t.Errorf("%s: Room answers %v", name, err)
			}
			continue
		}
		if err := l.Commit(k.ops); err != api.ErrForm {
			t.Errorf("%s: Commit answers %v", name, err)
		}
		if n, err := l.Room(k.ops); err != api.ErrForm || n != 0 {
			t.Errorf("%s: Room answers %d, %v", name, n, err)
		}
	}
	if filesOf(l) != before || d.Steps() != steps || l.Dead() {
		t.Error("a refused Commit changed something")
	}
}

// P6.1: the greatest change there is.
func TestCommitGreatest(t *testing.T) {
	l, d := newLog(t, api.MaxQuota)
	big := strings.Repeat("b", check.MaxRecord-12)
	must(t, l.Commit([]api.Op{replace("a", big)}))
	d.Arm(2)
	if err := l.Commit([]api.Op{appendTo("b", 0, big)}); err != api.ErrPower {
		t.Fatal(err)
	}
	d.Crash(nil)
	l, err := redo.Open(d)
	must(t, err)
	if filesOf(l) != "a="+big+" b="+big {
		t.Error("the files are others")
	}
}

// P6.1: what can be read by the log.
func TestReadAndList(t *testing.T) {
	l, d := newLog(t, 1000, "z=", "s=x", "a-1=\x00\xff", "r=1", "redo.=2")
	if !slices.Equal(l.List(), []string{"a-1", "r", "redo.", "s", "z"}) {
		t.Errorf("List answers %q", l.List())
	}
	ask := func(name, want string, is bool) {
		t.Helper()
		if b, ok := l.Read(name); string(b) != want || ok != is {
			t.Errorf("Read(%q) = %q, %v", name, b, ok)
		}
	}
	ask("z", "", true)
	ask("s", "x", true)
	ask("a-1", "\x00\xff", true)
	for _, name := range []string{"redo", "none", "", "A", "s ", strings.Repeat("a", 25)} {
		ask(name, "", false)
	}
	must(t, d.Append("redo", []byte("x")), d.Append("s", []byte("y")))
	ask("redo", "", false)
	ask("s", "xy", true)
	d.Arm(0)
	if err := d.SyncDir(); err != api.ErrPower || l.Dead() {
		t.Fatal(err, l.Dead())
	}
	ask("s", "", false)
	if len(l.List()) != 0 {
		t.Errorf("List without power answers %q", l.List())
	}
	d.Crash(nil)
	ask("s", "x", true)
	if len(l.List()) != 5 {
		t.Errorf("List behind a crash answers %q", l.List())
	}
}

// P6.1: a log without its file can't do a change; nothing else is changed.
func TestCommitWithoutLog(t *testing.T) {
	l, d := newLog(t, 1000, "a=1")
	must(t, d.Remove("redo"))
	if err := l.Commit([]api.Op{replace("a", "2")}); !errors.Is(err, api.ErrNone) || filesOf(l) != "a=1" || l.Dead() {
		t.Errorf("%v, %q, dead: %v", err, filesOf(l), l.Dead())
	}
}

// P6.1: what is handed in isn't changed or kept, and what is answered is the caller's own.
func TestFilesAreTheCallersOwn(t *testing.T) {
	l, d := newLog(t, 1000)
	ops := []api.Op{replace("a", "xyz"), appendTo("b", 0, "pq")}
	must(t, l.Commit(ops))
	if !sameOps(ops, []api.Op{replace("a", "xyz"), appendTo("b", 0, "pq")}) {
		t.Errorf("Commit changed what it was given: %s", told(ops))
	}
	ops[0].Bytes[0], ops[1].Bytes[0] = 'Q', 'Q'
	b, _ := l.Read("a")
	b[0] = 'R'
	l.List()[0] = "R"
	if filesOf(l) != "a=xyz b=pq" {
		t.Errorf("the caller's change shows: %q", filesOf(l))
	}
	must(t, d.Append("redo", recordOf(t, replace("a", "mno"))))
	m, err := redo.Open(d)
	must(t, err)
	if filesOf(m) != "a=mno b=pq" || filesOf(l) != filesOf(m) {
		t.Errorf("the disk isn't held: %q, %q", filesOf(l), filesOf(m))
	}
}

// P6.1: no call panics, whatever its arguments are.
func TestNoPanic(t *testing.T) {
	l, _ := newLog(t, 1000, "a=1")
	for _, n := range []int{math.MinInt, -1, 0, 1, 2, 3, 4, 255, 256, math.MaxInt} {
		for _, name := range []string{"", "a", "\xff\x00", "redo", strings.Repeat("a", 300)} {
			for _, b := range [][]byte{nil, {}, []byte("x"), bytes.Repeat([]byte("y"), 2000)} {
				for _, at := range []int{math.MinInt, -1, 0, 1, 1 << 31, 1 << 32, math.MaxInt} {
					ops := []api.Op{{Kind: n, Name: name, At: at, Bytes: b}}
					redo.Bytes(ops)
					l.Room(ops)
					l.Commit(ops)
				}
			}
		}
	}
	redo.Bytes(make([]api.Op, 100000))
	l.Commit(make([]api.Op, 100000))
	redo.Ops(make([]byte, 1000000))
}
