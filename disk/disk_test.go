package disk_test

import (
	"bytes"
	"fmt"
	"math"
	"runtime"
	"slices"
	"strings"
	"testing"

	"postbag/api"
	"postbag/disk"
)

func newDisk(t *testing.T, quota int) *disk.Disk {
	t.Helper()
	d, err := disk.New(quota)
	if err != nil {
		t.Fatal(err)
	}
	return d
}

// must fails at the first call that is refused.
func must(t *testing.T, errs ...error) {
	t.Helper()
	for i, err := range errs {
		if err != nil {
			t.Fatalf("call %d is refused: %v", i, err)
		}
	}
}

// has fails if the disk's files aren't these, told as "a=xyz b=".
func has(t *testing.T, d *disk.Disk, want string) {
	t.Helper()
	list, err := d.List()
	if err != nil {
		t.Fatal(err)
	}
	var got []string
	used := 0
	for _, name := range list {
		b, err := d.Read(name)
		size, sizeErr := d.Size(name)
		if err != nil || sizeErr != nil || size != len(b) {
			t.Errorf("%q: Read answers %q, %v, Size %d, %v", name, b, err, size, sizeErr)
		}
		got = append(got, name+"="+string(b))
		used += size
	}
	if text := strings.Join(got, " "); text != want {
		t.Errorf("the disk has %q, not %q", text, want)
	}
	if d.Used() != used {
		t.Errorf("Used is %d, not %d", d.Used(), used)
	}
}

// P5.1
func TestNew(t *testing.T) {
	for _, quota := range []int{0, 1, 100, 1<<30 - 1, 1 << 30} {
		d := newDisk(t, quota)
		has(t, d, "")
		if d.Quota() != quota || d.Off() || d.Steps() != 0 || d.Open() != 0 {
			t.Errorf("New(%d): quota %d, off %v, %d steps, %d open", quota, d.Quota(), d.Off(), d.Steps(), d.Open())
		}
	}
	for _, quota := range []int{-1, math.MinInt, 1<<30 + 1, math.MaxInt} {
		if d, err := disk.New(quota); err != api.ErrRange || d != nil {
			t.Errorf("New(%d) answers %v, %v", quota, d, err)
		}
	}
}

// P5.1: a disk that is made is not armed.
func TestNewIsNotArmed(t *testing.T) {
	d := newDisk(t, 10)
	for range 100 {
		must(t, d.SyncDir())
	}
}

// P5.1: a name that is right has 1 to MaxFile bytes, each of them one of 38.
func TestNames(t *testing.T) {
	for c := range 256 {
		right := c >= 'a' && c <= 'z' || c >= '0' && c <= '9' || c == '-' || c == '.'
		for _, name := range []string{string([]byte{byte(c)}), string([]byte{'a', byte(c), 'b'}), string([]byte{byte(c), 'a'}), string([]byte{'a', byte(c)})} {
			err := newDisk(t, 10).Create(name)
			if right && err != nil || !right && err != api.ErrName {
				t.Errorf("Create(%q) answers %v", name, err)
			}
		}
	}
	for size := range 30 {
		err := newDisk(t, 10).Create(strings.Repeat("z", size))
		if want := size >= 1 && size <= 24; want && err != nil || !want && err != api.ErrName {
			t.Errorf("Create of a name of %d bytes answers %v", size, err)
		}
	}
	for _, name := range []string{"ä", "\xff", "a b", "a/b", "A", strings.Repeat("a", 1<<20)} {
		if err := newDisk(t, 10).Create(name); err != api.ErrName {
			t.Errorf("Create(%.30q) answers %v", name, err)
		}
	}
	for _, name := range []string{".", "..", "-", "redo", "box-12.3", strings.Repeat("9", 24)} {
		if err := newDisk(t, 10).Create(name); err != nil {
			t.Errorf("Create(%q) answers %v", name, err)
		}
	}
}

// refusals: every call of a name, and what it answers.
func refusals(d *disk.Disk, name string) map[string]error {
	_, read := d.Read(name)
	_, size := d.Size(name)
	return map[string]error{
		"Append":    d.Append(name, []byte("x")),
		"Write":     d.Write(name, 0, []byte("x")),
		"Truncate":  d.Truncate(name, 0),
		"Rename":    d.Rename(name, "other"),
		"Remove":    d.Remove(name),
		"Sync":      d.Sync(name),
		"Read":      read,
		"Size":      size,
		"Truncate1": d.Truncate(name, 1),
		"Write1":    d.Write(name, -1, nil),
	}
}

// P5.1: ErrName, then ErrNone, ahead of all that a call has of its own.
func TestNoSuchFile(t *testing.T) {
	d := newDisk(t, 0)
	must(t, d.Create("a"))
	for name, want := range map[string]error{"b": api.ErrNone, "": api.ErrName, "B": api.ErrName, "aaaaaaaaaaaaaaaaaaaaaaaaa": api.ErrName} {
		for call, err := range refusals(d, name) {
			if err != want {
				t.Errorf("%s of %q answers %v, not %v", call, name, err, want)
			}
		}
	}
	if b, err := d.Read("b"); len(b) != 0 || err != api.ErrNone {
		t.Errorf("Read answers %q, %v", b, err)
	}
	if n, err := d.Size("b"); n != 0 || err != api.ErrNone {
		t.Errorf("Size answers %d, %v", n, err)
	}
	has(t, d, "a=")
	if d.Steps() != 1 || d.Open() != 1 {
		t.Errorf("refused calls count: %d steps, %d open", d.Steps(), d.Open())
	}
}

// P5.1: names from, then to; then whether there is a file.
func TestRenameRefuses(t *testing.T) {
	d := newDisk(t, 10)
	must(t, d.Create("a"))
	for _, k := range []struct {
		from, to string
		err      error
	}{
		{"A", "b", api.ErrName}, {"a", "B", api.ErrName}, {"A", "B", api.ErrName}, {"none", "B", api.ErrName}, {"", "", api.ErrName},
		{"none", "b", api.ErrNone}, {"none", "a", api.ErrNone}, {"none", "none", api.ErrNone},
	} {
		if err := d.Rename(k.from, k.to); err != k.err {
			t.Errorf("Rename(%q, %q) answers %v, not %v", k.from, k.to, err, k.err)
		}
	}
	has(t, d, "a=")
	if d.Steps() != 1 {
		t.Errorf("%d steps", d.Steps())
	}
}

// P5.1: ErrExists ahead of ErrFull, at MaxFiles names.
func TestCreateRefuses(t *testing.T) {
	d := newDisk(t, 10)
	for i := range 64 {
		must(t, d.Create(fmt.Sprint("f", i)))
	}
	for name, want := range map[string]error{"f63": api.ErrExists, "f64": api.ErrFull, "F": api.ErrName} {
		if err := d.Create(name); err != want {
			t.Errorf("Create(%q) among 64 files answers %v, not %v", name, err, want)
		}
	}
	if list, _ := d.List(); len(list) != 64 || d.Steps() != 64 {
		t.Errorf("%d names, %d steps", len(list), d.Steps())
	}
	must(t, d.Rename("f0", "f64"), d.Remove("f1"), d.Create("f0"))
	if err := d.Create("f1"); err != api.ErrFull {
		t.Errorf("Create answers %v", err)
	}
	must(t, d.Rename("f2", "f3"), d.Create("f1"))
	must(t, d.Append("f0", []byte("x")))
	if err := d.Create("f0"); err != api.ErrExists {
		t.Errorf("Create answers %v", err)
	}
	if b, _ := d.Read("f0"); string(b) != "x" {
		t.Errorf("a refused Create leaves %q", b)
	}
}

// P5.1
func TestAppendWriteTruncate(t *testing.T) {
	d := newDisk(t, 100)
	must(t, d.Create("a"), d.Append("a", []byte("abc")), d.Append("a", nil), d.Append("a", []byte("\x00\xff")))
	has(t, d, "a=abc\x00\xff")
	must(t, d.Truncate("a", 5), d.Truncate("a", 3))
	has(t, d, "a=abc")
	must(t, d.Write("a", 1, []byte("X")))
	has(t, d, "a=aXc")
	must(t, d.Write("a", 2, []byte("YZ")))
	has(t, d, "a=aXYZ")
	must(t, d.Write("a", 4, []byte("!")), d.Write("a", 5, nil), d.Write("a", 0, nil))
	has(t, d, "a=aXYZ!")
	must(t, d.Write("a", 0, []byte("123456")))
	has(t, d, "a=123456")
	must(t, d.Truncate("a", 0), d.Truncate("a", 0), d.Write("a", 0, []byte("q")))
	has(t, d, "a=q")
	must(t, d.Truncate("a", 0), d.Append("a", []byte("r")))
	has(t, d, "a=r")
}

// P5.1: places below 0 and above the size.
func TestPlacesAreRefused(t *testing.T) {
	d := newDisk(t, 4)
	must(t, d.Create("a"), d.Append("a", []byte("abc")))
	for _, n := range []int{-1, math.MinInt, 4, 1 << 31, math.MaxInt} {
		for _, b := range []string{"", "x", "more than the quota"} {
			if err := d.Write("a", n, []byte(b)); err != api.ErrRange {
				t.Errorf("Write at %d answers %v", n, err)
			}
		}
		if err := d.Truncate("a", n); err != api.ErrRange {
			t.Errorf("Truncate to %d answers %v", n, err)
		}
	}
	has(t, d, "a=abc")
	if d.Steps() != 2 || d.Open() != 2 {
		t.Errorf("refused calls count: %d steps, %d open", d.Steps(), d.Open())
	}
}

// P5.1: what all files with a name have may be as much as the quota.
func TestQuota(t *testing.T) {
	d := newDisk(t, 10)
	must(t, d.Create("a"), d.Create("b"), d.Append("a", []byte("123456")))
	if err := d.Append("b", []byte("12345")); err != api.ErrQuota {
		t.Errorf("Append answers %v", err)
	}
	if err := d.Write("b", 0, []byte("12345")); err != api.ErrQuota {
		t.Errorf("Write answers %v", err)
	}
	if err := d.Write("a", 3, []byte("12345678")); err != api.ErrQuota {
		t.Errorf("Write answers %v", err)
	}
	has(t, d, "a=123456 b=")
	must(t, d.Write("a", 3, []byte("1234567")), d.Write("a", 0, []byte("abcdefghij")), d.Append("b", nil))
	has(t, d, "a=abcdefghij b=")
	must(t, d.Rename("a", "c"), d.Create("a"))
	if err := d.Append("a", []byte("1")); err != api.ErrQuota {
		t.Errorf("Append answers %v", err)
	}
	must(t, d.Remove("c"), d.Append("a", []byte("1234567890")))
	if d.Used() != 10 {
		t.Errorf("Used is %d", d.Used())
	}
	must(t, d.Rename("b", "a"), d.Append("a", []byte("12345")))
	if err := d.Append("a", []byte("123456")); err != api.ErrQuota {
		t.Errorf("Append answers %v", err)
	}
	has(t, d, "a=12345")
}

// P5.1: below what is used nothing is written, not even where nothing grows.
func TestQuotaFalls(t *testing.T) {
	d := newDisk(t, 10)
	must(t, d.Create("a"), d.Append("a", []byte("123456")), d.SetQuota(5))
	if d.Quota() != 5 || d.Used() != 6 {
		t.Errorf("%d of %d are used", d.Used(), d.Quota())
	}
	for _, err := range []error{d.Append("a", nil), d.Append("a", []byte("x")), d.Write("a", 0, nil), d.Write("a", 0, []byte("x")), d.Write("a", 6, nil)} {
		if err != api.ErrQuota {
			t.Errorf("above the quota: %v", err)
		}
	}
	must(t, d.Create("b"), d.Rename("b", "c"), d.Remove("c"), d.Sync("a"), d.SyncDir(), d.Truncate("a", 5))
	must(t, d.Append("a", nil), d.Write("a", 0, []byte("x")))
	has(t, d, "a=x2345")
	for _, n := range []int{-1, 1<<30 + 1, math.MaxInt, math.MinInt} {
		if err := d.SetQuota(n); err != api.ErrRange || d.Quota() != 5 {
			t.Errorf("SetQuota(%d) answers %v, and the quota is %d", n, err, d.Quota())
		}
	}
	steps, open := d.Steps(), d.Open()
	must(t, d.SetQuota(0), d.SetQuota(1<<30))
	if d.Quota() != 1<<30 || d.Steps() != steps || d.Open() != open {
		t.Errorf("SetQuota is a step")
	}
}

// P5.1
func TestRenameAndRemove(t *testing.T) {
	d := newDisk(t, 100)
	must(t, d.Create("a"), d.Append("a", []byte("1")), d.Create("b"), d.Append("b", []byte("2")))
	must(t, d.Rename("a", "c"))
	has(t, d, "b=2 c=1")
	must(t, d.Rename("c", "b"))
	has(t, d, "b=1")
	steps, open := d.Steps(), d.Open()
	must(t, d.Rename("b", "b"))
	has(t, d, "b=1")
	if d.Steps() != steps+1 || d.Open() != open+1 {
		t.Errorf("a Rename to the same name: %d steps, %d open, then %d, %d", steps, open, d.Steps(), d.Open())
	}
	must(t, d.Append("b", []byte("3")), d.Create("a"))
	has(t, d, "a= b=13")
	must(t, d.Remove("b"))
	has(t, d, "a=")
	if err := d.Remove("b"); err != api.ErrNone {
		t.Errorf("Remove answers %v", err)
	}
	must(t, d.Create("b"))
	has(t, d, "a= b=")
}

// P5.1: names rise byte by byte.
func TestList(t *testing.T) {
	d := newDisk(t, 100)
	names := []string{"b", "a", "aa", "a.", "a-", "a0", "0", "-", ".", "z", "10", "9"}
	for _, name := range names {
		must(t, d.Create(name))
	}
	want := []string{"-", ".", "0", "10", "9", "a", "a-", "a.", "a0", "aa", "b", "z"}
	if got, err := d.List(); err != nil || !slices.Equal(got, want) {
		t.Errorf("List answers %q, %v", got, err)
	}
}

// P5.1: the calls that are steps, and those of them that are open.
func TestStepsAndOpen(t *testing.T) {
	d := newDisk(t, 100)
	count := func(what string, steps, open int, err error) {
		t.Helper()
		if err != nil || d.Steps() != steps || d.Open() != open {
			t.Errorf("%s: %v, %d steps, %d open, not %d, %d", what, err, d.Steps(), d.Open(), steps, open)
		}
	}
	count("a Create", 1, 1, d.Create("a"))
	count("an Append", 2, 2, d.Append("a", []byte("abc")))
	count("a Write", 3, 3, d.Write("a", 0, []byte("x")))
	count("a Truncate", 4, 4, d.Truncate("a", 1))
	count("an Append of none", 5, 5, d.Append("a", nil))
	count("a Write of none", 6, 6, d.Write("a", 0, nil))
	count("a Truncate to the size", 7, 7, d.Truncate("a", 1))
	count("a Rename", 8, 8, d.Rename("a", "b"))
	count("a Rename to the same name", 9, 9, d.Rename("b", "b"))
	count("a Create", 10, 10, d.Create("a"))
	count("a Remove", 11, 11, d.Remove("a"))
	count("a Sync", 12, 5, d.Sync("b"))
	count("a Sync of what is sure", 13, 5, d.Sync("b"))
	count("an Append", 14, 6, d.Append("b", []byte("yz")))
	count("a SyncDir", 15, 1, d.SyncDir())
	count("a SyncDir of what is sure", 16, 1, d.SyncDir())
	count("a Remove", 17, 2, d.Remove("b"))
	count("a SyncDir", 18, 1, d.SyncDir())
	count("a Create", 19, 2, d.Create("b"))
	count("a Sync of another file of that name", 20, 2, d.Sync("b"))
	for _, err := range []error{d.Create("b"), d.Append("c", nil), d.Write("b", 9, nil), d.Append("b", make([]byte, 101)), d.Sync(""), d.Remove("c")} {
		if err == nil {
			t.Errorf("a wrong call isn't refused")
		}
	}
	d.Read("b")
	d.Size("b")
	d.List()
	d.Used()
	d.Quota()
	d.Off()
	d.Arm(5)
	d.Arm(-1)
	count("calls that are none", 20, 2, d.SetQuota(50))
	d.Crash(nil)
	count("a Crash", 20, 0, nil)
}

// The rules: what is handed in is neither changed nor kept, what is answered is the caller's own.
func TestBytesAreTheirOwn(t *testing.T) {
	d := newDisk(t, 100)
	b := []byte("abc")
	must(t, d.Create("a"), d.Append("a", b))
	b[0] = 'X'
	has(t, d, "a=abc")
	must(t, d.Write("a", 3, b[:1:3]))
	b[0] = 'Y'
	has(t, d, "a=abcX")
	if string(b) != "Ybc" {
		t.Errorf("Write changes its bytes: %q", b)
	}
	read, _ := d.Read("a")
	read[0] = 'Z'
	_ = append(read, "more"...)
	has(t, d, "a=abcX")
	must(t, d.Write("a", 0, []byte("123")))
	if string(read) != "ZbcX" {
		t.Errorf("Write shows in what was read: %q", read)
	}
	must(t, d.Append("a", read), d.Write("a", 0, read))
	has(t, d, "a=ZbcXZbcX")
	list, _ := d.List()
	list[0] = "q"
	has(t, d, "a=ZbcXZbcX")
	keep := []int{-1, 100, 7, 3}
	d.Crash(keep)
	if !slices.Equal(keep, []int{-1, 100, 7, 3}) {
		t.Errorf("Crash changes its numbers: %v", keep)
	}
}

// P5.1: two disks have nothing in common.
func TestDisksAreApart(t *testing.T) {
	d, e := newDisk(t, 10), newDisk(t, 20)
	must(t, d.Create("a"), d.Append("a", []byte("x")), e.Create("b"))
	d.Arm(0)
	if err := d.SyncDir(); err != api.ErrPower || !d.Off() || e.Off() {
		t.Errorf("SyncDir answers %v, off: %v, %v", err, d.Off(), e.Off())
	}
	must(t, e.SyncDir())
	e.Crash(nil)
	has(t, e, "b=")
	if !d.Off() || d.Used() != 1 || e.Quota() != 20 {
		t.Errorf("one disk's Crash shows in the other one")
	}
}

// P5.1 of many steps: what a step costs doesn't hang on how many there were, nor on how long the file is.
func TestManySteps(t *testing.T) {
	d := newDisk(t, 1<<30)
	must(t, d.Create("log"), d.Append("log", bytes.Repeat([]byte("x"), 1<<24)), d.Sync("log"), d.SyncDir())
	for i := range 100000 {
		must(t, d.Append("log", []byte("abcd")), d.Write("log", i, []byte("y")), d.Truncate("log", 1<<24+4*i+1), d.Write("log", 1<<24+4*i+1, []byte("bcd")), d.Sync("log"))
	}
	if n, err := d.Size("log"); n != 1<<24+400000 || err != nil {
		t.Errorf("Size answers %d, %v", n, err)
	}
	for i := range 100000 {
		must(t, d.Create("a"), d.Append("a", []byte("x")), d.Remove("a"), d.SyncDir())
		if d.Open() != i+1 {
			t.Fatalf("%d open, not %d", d.Open(), i+1)
		}
	}
	if d.Open() != 100000 || d.Steps() != 500000+400000+4 {
		t.Errorf("%d open of %d steps", d.Open(), d.Steps())
	}
	for range 100000 {
		must(t, d.Create("b"), d.Rename("b", "c"))
	}
	d.Crash([]int{200000})
	if list, _ := d.List(); !slices.Equal(list, []string{"c", "log"}) || d.Open() != 0 {
		t.Errorf("List answers %q, %d open", list, d.Open())
	}
}

// Nothing is kept that no promise needs: the bytes of files that surely have no name are none of a disk's.
func TestLostBytesAreNotKept(t *testing.T) {
	d := newDisk(t, 1<<30)
	must(t, d.Create("b"), d.Append("b", []byte("kept")))
	long := make([]byte, 1<<20)
	for range 200 {
		must(t, d.Create("a"), d.Append("a", long), d.Write("a", 0, long), d.Truncate("a", 0), d.Append("a", long), d.Remove("a"), d.SyncDir())
	}
	runtime.GC()
	var m runtime.MemStats
	runtime.ReadMemStats(&m)
	if m.HeapAlloc > 100<<20 {
		t.Errorf("%d bytes are held", m.HeapAlloc)
	}
	if d.Open() != 801 || d.Used() != 4 {
		t.Errorf("%d open, %d used", d.Open(), d.Used())
	}
	d.Crash([]int{0, 1, 2, 3, 4})
	has(t, d, "b=kept")
}
