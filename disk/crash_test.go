package disk_test

import (
	"bytes"
	"fmt"
	"math"
	"math/rand"
	"testing"

	"postbag/api"
	"postbag/disk"
)

// P5.1: the document's examples.
func TestExamples(t *testing.T) {
	d := newDisk(t, 100)
	must(t, d.Create("a"), d.Append("a", []byte("xyz")))
	d.Crash(nil)
	has(t, d, "")
	d = newDisk(t, 100)
	must(t, d.Create("a"), d.SyncDir(), d.Append("a", []byte("xyz")))
	d.Crash([]int{0, 0, 2})
	has(t, d, "a=xy")
}

// P5.1: how many of the open steps of names stay.
func TestCrashOfNames(t *testing.T) {
	for keep, want := range map[int]string{0: "a=1", 1: "a=1 b=", 2: "b=1", 3: "b=1 c=", 4: "c=1", 5: "", 6: "a=1", 7: "a=1 b=", 6*1000 + 4: "c=1", -1: "a=1", math.MinInt: "a=1"} {
		d := newDisk(t, 100)
		must(t, d.Create("a"), d.Append("a", []byte("1")), d.Sync("a"), d.SyncDir())
		must(t, d.Create("b"), d.Rename("a", "b"), d.Create("c"), d.Rename("b", "c"), d.Remove("c"))
		d.Crash([]int{keep})
		has(t, d, want)
		d.Crash([]int{3})
		has(t, d, want)
	}
}

// P5.1: a Rename to the same name is an open step, too.
func TestCrashCountsRenameToItself(t *testing.T) {
	for keep, want := range []string{"", "a=", "a=", "b=", ""} {
		d := newDisk(t, 100)
		must(t, d.Create("a"), d.Rename("a", "a"), d.Rename("a", "b"))
		d.Crash([]int{keep})
		has(t, d, want)
	}
}

// P5.1: how many of the open steps of a file stay, and how many bytes of the next one.
func TestCrashOfFile(t *testing.T) {
	for _, k := range []struct {
		steps, bytes int
		want         string
	}{
		{0, 0, "12345"}, {0, 1, "12345a"}, {0, 2, "12345ab"}, {0, 3, "12345"}, {0, 4, "12345a"}, {0, -7, "12345"},
		{1, 0, "12345ab"}, {1, 1, "12345Xb"}, {1, 2, "12345XY"}, {1, 3, "12345XYZ"}, {1, 4, "12345ab"},
		{2, 0, "12345XYZ"}, {2, 1, "12345XYZ"}, {2, 5, "12345XYZ"},
		{3, 0, "123"}, {3, 1, "1P3"}, {3, 2, "1PQ"}, {3, 3, "123"},
		{4, 0, "1PQ"}, {4, 1, "1PQR"}, {4, 2, "1PQ"},
		{5, 0, "1PQR"}, {5, 9, "1PQR"},
		{6, 0, "1"}, {6, 1, "1z"}, {6, 2, "1zy"}, {6, 3, "1"},
		{7, 0, "1zy"}, {7, 5, "1zy"},
		{8, 0, "12345"}, {8, 1, "12345a"}, {9, 0, "12345ab"}, {-3, 2, "12345ab"},
		{math.MaxInt - 7, 0, "12345"}, // a multiple of 8
	} {
		d := newDisk(t, 100)
		must(t, d.Create("a"), d.Append("a", []byte("12345")), d.Sync("a"), d.SyncDir())
		must(t, d.Append("a", []byte("ab")), d.Write("a", 5, []byte("XYZ")), d.Truncate("a", 3), d.Write("a", 1, []byte("PQ")))
		must(t, d.Append("a", []byte("R")), d.Truncate("a", 1), d.Append("a", []byte("zy")))
		d.Crash([]int{5, k.steps, k.bytes})
		has(t, d, "a="+k.want)
		if d.Open() != 0 {
			t.Errorf("%d steps are open behind a crash", d.Open())
		}
		d.Crash([]int{1, 1, 1})
		has(t, d, "a="+k.want)
	}
}

// P5.1: each number has its place: names, then each file with open steps by number, and the bytes of its next step right behind it.
func TestCrashTakesNumbersInOrder(t *testing.T) {
	build := func() *disk.Disk {
		d := newDisk(t, 100)
		must(t, d.Create("z"), d.Create("y"), d.Create("x"), d.Create("w"), d.Create("v"), d.SyncDir())
		must(t, d.Append("v", []byte("12")), d.Append("w", []byte("34")), d.Append("x", []byte("56")), d.Sync("x"))
		must(t, d.Append("y", nil), d.Append("z", []byte("78")), d.Truncate("z", 1), d.Rename("z", "a"))
		return d
	}
	for _, k := range []struct {
		keep []int
		want string
	}{
		{nil, "v= w= x=56 y= z="},
		{[]int{1}, "a= v= w= x=56 y="},
		{[]int{0, 0, 1}, "v= w= x=56 y= z=7"},
		// of z both steps stay: no number of bytes is asked; y has a step, w and v, too
		{[]int{0, 2, 1, 0, 1}, "v= w=3 x=56 y= z=7"},
		{[]int{0, 2, 1, 1, 0, 1}, "v=1 w=34 x=56 y= z=7"},
		{[]int{0, 2, 1, 1, 1}, "v=12 w=34 x=56 y= z=7"},
		// of z one step stays, and the next one is a Truncate: no number of bytes is asked
		{[]int{0, 1, 1, 1, 1}, "v=12 w=34 x=56 y= z=78"},
		{[]int{0, 1, 1, 0, 1, 0, 1}, "v=1 w=3 x=56 y= z=78"},
		// y's Append of no bytes asks for one
		{[]int{0, 1, 0, 5, 1, 1}, "v=12 w=34 x=56 y= z=78"},
		{[]int{0, 0, 1, 0, 5, 0, 1, 0, 2, 3, 4, 5}, "v=12 w=3 x=56 y= z=7"},
		{[]int{0, 0, 1, 0, 5, 0, 1, 0}, "v= w=3 x=56 y= z=7"},
	} {
		d := build()
		d.Crash(k.keep)
		has(t, d, k.want)
	}
}

// P5.1: files that have no name any more have their numbers, too.
func TestCrashOfNamelessFiles(t *testing.T) {
	for _, surely := range []bool{false, true} {
		d := newDisk(t, 100)
		must(t, d.Create("a"), d.Create("b"), d.Create("c"), d.SyncDir())
		must(t, d.Append("a", []byte("abc")), d.Append("b", []byte("def")), d.Write("b", 1, []byte("x")), d.Truncate("b", 1), d.Append("c", []byte("ghi")))
		must(t, d.Rename("a", "b"), d.Remove("b"))
		if d.Open() != 7 || d.Used() != 3 {
			t.Errorf("%d open, %d used", d.Open(), d.Used())
		}
		if surely {
			must(t, d.SyncDir())
			if d.Open() != 5 {
				t.Errorf("%d open", d.Open())
			}
			d.Crash([]int{0, 0, 2, 1, 1, 0, 1})
			has(t, d, "c=g")
			continue
		}
		d.Crash([]int{0, 0, 2, 1, 1, 0, 1})
		has(t, d, "a=ab b=dxf c=g")
	}
}

// P5.1: a file that lost its name for good stays without one, and what had its name has bytes of its own.
func TestNamelessFilesStaySo(t *testing.T) {
	d := newDisk(t, 100)
	must(t, d.Create("a"), d.Append("a", []byte("old")), d.SyncDir(), d.Remove("a"), d.SyncDir())
	must(t, d.Create("a"), d.Append("a", []byte("new")), d.Sync("a"), d.SyncDir())
	if d.Open() != 1 {
		t.Errorf("%d open", d.Open())
	}
	d.Crash([]int{0, 1})
	has(t, d, "a=new")
	must(t, d.Remove("a"))
	d.Crash([]int{1})
	has(t, d, "")
	for range 5 {
		d.Crash([]int{1, 1, 1})
		has(t, d, "")
	}
}

// P5.1: a file whose name isn't sure may stay without one, though its bytes were sure.
func TestSyncedFileWithoutSureName(t *testing.T) {
	d := newDisk(t, 100)
	must(t, d.Create("a"), d.Append("a", []byte("x")), d.Sync("a"))
	d.Crash(nil)
	has(t, d, "")
	must(t, d.Create("a"))
	has(t, d, "a=")
	d = newDisk(t, 100)
	must(t, d.Create("a"), d.Append("a", []byte("x")), d.Sync("a"), d.Append("a", []byte("y")))
	d.Crash([]int{1})
	has(t, d, "a=x")
}

// P5.1: a crash that brings a name back, with more bytes than the quota.
func TestCrashAboveQuota(t *testing.T) {
	d := newDisk(t, 5)
	must(t, d.Create("a"), d.Append("a", []byte("12345")), d.Sync("a"), d.Create("b"), d.SyncDir(), d.Remove("a"))
	must(t, d.Append("b", []byte("678")), d.Sync("b"))
	d.Crash(nil)
	has(t, d, "a=12345 b=678")
	if d.Used() != 8 || d.Quota() != 5 || d.Append("b", nil) != api.ErrQuota {
		t.Errorf("%d of %d are used", d.Used(), d.Quota())
	}
}

// P5.1: the power goes behind n further steps, at the call that would be the next one.
func TestArm(t *testing.T) {
	for n := range 5 {
		d := newDisk(t, 100)
		must(t, d.Create("a"), d.Append("a", []byte("x")))
		d.Arm(n)
		for range n {
			must(t, d.Sync("a"))
			if d.Off() {
				t.Errorf("Arm(%d): the power is off too early", n)
			}
		}
		has(t, d, "a=x")
		if err := d.Append("a", []byte("y")); err != api.ErrPower || !d.Off() || d.Steps() != 2+n {
			t.Errorf("Arm(%d): the next step answers %v, off %v, %d steps", n, err, d.Off(), d.Steps())
		}
		d.Crash([]int{1})
		if d.Off() {
			t.Errorf("the power is off behind a crash")
		}
		want := "a="
		if n > 0 {
			want = "a=x"
		}
		has(t, d, want)
		for range 10 {
			must(t, d.SyncDir())
		}
	}
	for _, n := range []int{-1, -2, math.MinInt, math.MaxInt} {
		d := newDisk(t, 100)
		d.Arm(0)
		d.Arm(n)
		for range 10 {
			must(t, d.SyncDir())
		}
	}
}

// steps: every call that is a step, and isn't refused of a disk with "a", which has a byte.
func steps() map[string]func(*disk.Disk) error {
	return map[string]func(*disk.Disk) error{
		"Create":   func(d *disk.Disk) error { return d.Create("b") },
		"Append":   func(d *disk.Disk) error { return d.Append("a", []byte("y")) },
		"Write":    func(d *disk.Disk) error { return d.Write("a", 0, []byte("y")) },
		"Truncate": func(d *disk.Disk) error { return d.Truncate("a", 0) },
		"Rename":   func(d *disk.Disk) error { return d.Rename("a", "b") },
		"Remove":   func(d *disk.Disk) error { return d.Remove("a") },
		"Sync":     func(d *disk.Disk) error { return d.Sync("a") },
		"SyncDir":  func(d *disk.Disk) error { return d.SyncDir() },
	}
}

// P5.1: the power goes at each kind of step, which isn't done then.
func TestPowerGoesAtEachStep(t *testing.T) {
	for name, step := range steps() {
		d := newDisk(t, 2)
		must(t, d.Create("a"), d.Append("a", []byte("x")))
		d.Arm(0)
		if err := step(d); err != api.ErrPower || !d.Off() || d.Steps() != 2 || d.Open() != 2 || d.Used() != 1 {
			t.Errorf("%s answers %v: off %v, %d steps, %d open, %d used", name, err, d.Off(), d.Steps(), d.Open(), d.Used())
		}
		d.Crash([]int{1, 1})
		has(t, d, "a=x")
		if err := step(d); err != nil {
			t.Errorf("%s with power answers %v", name, err)
		}
	}
}

// P5.1: without power all calls answer ErrPower ahead of every other error, but those that ask or set.
func TestNoPower(t *testing.T) {
	d := newDisk(t, 10)
	must(t, d.Create("a"), d.Append("a", []byte("x")))
	d.Arm(0)
	d.SyncDir()
	for _, name := range []string{"a", "b", "", "A"} {
		for call, err := range refusals(d, name) {
			if err != api.ErrPower {
				t.Errorf("%s of %q without power answers %v", call, name, err)
			}
		}
		if b, err := d.Read(name); len(b) != 0 || err != api.ErrPower {
			t.Errorf("Read answers %q, %v", b, err)
		}
		if n, err := d.Size(name); n != 0 || err != api.ErrPower {
			t.Errorf("Size answers %d, %v", n, err)
		}
		for _, err := range []error{d.Create(name), d.Rename("a", name), d.Append(name, make([]byte, 100))} {
			if err != api.ErrPower {
				t.Errorf("a call without power answers %v", err)
			}
		}
	}
	if list, err := d.List(); len(list) != 0 || err != api.ErrPower {
		t.Errorf("List answers %q, %v", list, err)
	}
	if err := d.SyncDir(); err != api.ErrPower {
		t.Errorf("SyncDir answers %v", err)
	}
	if d.Used() != 1 || d.Quota() != 10 || d.Steps() != 2 || d.Open() != 2 || !d.Off() {
		t.Errorf("used %d of %d, %d steps, %d open, off %v", d.Used(), d.Quota(), d.Steps(), d.Open(), d.Off())
	}
	if err := d.SetQuota(7); err != nil || d.Quota() != 7 || d.SetQuota(-1) != api.ErrRange {
		t.Errorf("SetQuota answers %v", err)
	}
	for _, n := range []int{-1, 0, 5} {
		d.Arm(n)
		if !d.Off() || d.SyncDir() != api.ErrPower {
			t.Errorf("Arm(%d) brings the power back", n)
		}
	}
	d.Crash([]int{1, 1})
	has(t, d, "a=x")
	must(t, d.SyncDir(), d.SyncDir(), d.SyncDir(), d.SyncDir(), d.SyncDir(), d.SyncDir(), d.SyncDir())
}

// P5.1: what is refused anyhow is no step: it answers its own error, and the power stays.
func TestRefusedCallsLeaveThePower(t *testing.T) {
	d := newDisk(t, 2)
	must(t, d.Create("a"), d.Append("a", []byte("x")))
	for _, n := range []int{0, 1} {
		d.Arm(n)
		for i, k := range []struct{ got, want error }{
			{d.Create("a"), api.ErrExists}, {d.Create("A"), api.ErrName}, {d.Append("b", nil), api.ErrNone}, {d.Append("a", []byte("yz")), api.ErrQuota},
			{d.Write("a", 2, nil), api.ErrRange}, {d.Write("a", 1, []byte("yz")), api.ErrQuota}, {d.Truncate("a", 2), api.ErrRange}, {d.Rename("b", "a"), api.ErrNone},
			{d.Rename("a", ""), api.ErrName}, {d.Remove("b"), api.ErrNone}, {d.Sync("b"), api.ErrNone}, {d.SetQuota(-1), api.ErrRange}, {d.SetQuota(2), nil},
		} {
			if k.got != k.want || d.Off() {
				t.Errorf("Arm(%d), call %d: %v, not %v; off %v", n, i, k.got, k.want, d.Off())
			}
		}
		has(t, d, "a=x")
	}
	must(t, d.Sync("a"))
	if err := d.Sync("a"); err != api.ErrPower {
		t.Errorf("the second step answers %v", err)
	}
}

// P5.1: a Crash takes the power's arming away, and leaves quota and steps.
func TestCrashLeavesQuotaAndSteps(t *testing.T) {
	d := newDisk(t, 10)
	must(t, d.SetQuota(3), d.Create("a"), d.SyncDir())
	d.Arm(1)
	d.Crash(nil)
	if d.Quota() != 3 || d.Steps() != 2 || d.Open() != 0 || d.Off() {
		t.Errorf("quota %d, %d steps, %d open, off %v", d.Quota(), d.Steps(), d.Open(), d.Off())
	}
	must(t, d.SyncDir(), d.SyncDir(), d.SyncDir())
	d.Crash([]int{math.MaxInt, math.MinInt})
	has(t, d, "a=")
}

// P5.2: whatever is done to other files, and however much of it stays.
func TestSyncedFilesStay(t *testing.T) {
	for seed := range 500 {
		r := rand.New(rand.NewSource(int64(seed)))
		d := newDisk(t, 10000)
		sure := bytes.Repeat([]byte{byte(seed)}, r.Intn(50))
		for _, c := range randomCalls(r, r.Intn(30), []string{"a", "b", "sure"}, false) {
			do(d, c)
		}
		d.Create("sure")
		must(t, d.Truncate("sure", 0), d.Append("sure", sure), d.Sync("sure"), d.SyncDir())
		for range 3 {
			if r.Intn(2) == 0 {
				d.Arm(r.Intn(40))
			}
			for _, c := range randomCalls(r, r.Intn(40), []string{"a", "b", "c"}, false) {
				do(d, c)
			}
			keep := make([]int, r.Intn(20))
			for i := range keep {
				keep[i] = r.Intn(60)
			}
			d.Crash(keep)
			if b, err := d.Read("sure"); err != nil || !bytes.Equal(b, sure) {
				t.Fatalf("seed %d: the file is %q, %v, not %q", seed, b, err, sure)
			}
		}
	}
}

// P5.2: bytes and name are sure each for themselves: what was done to a name leaves the bytes, and the other way round.
func TestBytesAndNamesAreSureApart(t *testing.T) {
	d := newDisk(t, 100)
	must(t, d.Create("a"), d.Append("a", []byte("abc")), d.Sync("a"), d.SyncDir(), d.Rename("a", "b"), d.Create("a"), d.Append("a", []byte("q")))
	d.Crash(nil)
	has(t, d, "a=abc")
	must(t, d.Rename("a", "b"), d.SyncDir(), d.Truncate("b", 1))
	d.Crash(nil)
	has(t, d, "b=abc")
	must(t, d.Truncate("b", 1), d.Sync("b"), d.Rename("b", "c"))
	d.Crash(nil)
	has(t, d, "b=a")
}

// P5.2: a long file with every kind of step behind its Sync.
func TestLongFileStays(t *testing.T) {
	d := newDisk(t, 1<<30)
	long := bytes.Repeat([]byte("0123456789abcdef"), 1<<16)
	must(t, d.Create("a"), d.Append("a", long), d.Sync("a"), d.SyncDir())
	must(t, d.Append("a", long), d.Write("a", 7, long), d.Write("a", 2<<20-3, []byte("longer")), d.Truncate("a", 1<<19), d.Write("a", 0, long[3:]), d.Truncate("a", 0), d.Append("a", []byte("x")))
	d.Crash(nil)
	if b, err := d.Read("a"); err != nil || !bytes.Equal(b, long) {
		t.Errorf("Read answers %d bytes, %v", len(b), err)
	}
	must(t, d.Write("a", 5, long))
	d.Crash([]int{0, 0, 3})
	want := append(append(append([]byte{}, long[:5]...), long[:3]...), long[8:]...)
	if b, _ := d.Read("a"); !bytes.Equal(b, want) {
		t.Errorf("three bytes of a Write: %s", fmt.Sprintf("%.20q", b))
	}
}
