package redo_test

import (
	"fmt"
	"math/rand"
	"testing"

	"postbag/api"
	"postbag/disk"
	"postbag/redo"
)

// scene is files, and a change of them.
type scene struct {
	files  []string
	ops    []api.Op
	behind string
}

func scenes() []scene {
	files := []string{"a=12345", "b=", "c=zz"}
	return []scene{
		{nil, []api.Op{replace("a", "x"), replace("b", "y")}, "a=x b=y"},
		{files, []api.Op{replace("a", "xy")}, "a=xy b= c=zz"},
		{files, []api.Op{appendTo("a", 5, "67")}, "a=1234567 b= c=zz"},
		{files, []api.Op{appendTo("a", 5, ""), appendTo("b", 0, "q"), appendTo("d", 0, "new")}, "a=12345 b=q c=zz d=new"},
		{files, []api.Op{remove("a"), remove("n"), replace("d", "")}, "b= c=zz d="},
		{files, []api.Op{replace("d", "new"), remove("c"), appendTo("a", 5, "6"), replace("e", "newer")}, "a=123456 b= d=new e=newer"},
		{files, []api.Op{replace("c", ""), replace("b", "longer"), remove("a"), appendTo("n", 0, "")}, "b=longer c= n="},
		{files, []api.Op{remove("a"), remove("b"), remove("c")}, ""},
		{files, []api.Op{remove("n")}, "a=12345 b= c=zz"},
	}
}

// begun is a disk with the scene's files, and its change committed; the power goes behind n steps.
func (s scene) begun(t *testing.T, n int) (d *disk.Disk, ahead string, err error) {
	t.Helper()
	l, d := newLog(t, 1000, s.files...)
	ahead = filesOf(l)
	d.Arm(n)
	err = l.Commit(s.ops)
	if (err != nil) != l.Dead() || err != nil && err != api.ErrPower {
		t.Fatalf("Commit answers %v, dead: %v", err, l.Dead())
	}
	return d, ahead, err
}

// holds opens the log, and holds its files against those that may be there.
func (s scene) holds(t *testing.T, d *disk.Disk, ahead string, answered error, how string) {
	t.Helper()
	quota := d.Quota()
	l, err := redo.Open(d)
	if err != nil {
		t.Fatalf("%s: Open answers %v", how, err)
	}
	got := filesOf(l)
	if got != s.behind && (answered == nil || got != ahead) {
		t.Fatalf("%s: the files are %q; ahead %q, behind %q, answered %v", how, got, ahead, s.behind, answered)
	}
	if d.Open() != 0 || d.Quota() != quota {
		t.Fatalf("%s: %d steps are open behind Open, the quota is %d", how, d.Open(), d.Quota())
	}
	d.Crash([]int{1, 1, 1})
	if again, err := redo.Open(d); err != nil || filesOf(again) != got {
		t.Fatalf("%s: behind another crash %q became %q, %v", how, got, filesOf(again), err)
	}
	if err := d.SetQuota(1000); err != nil {
		t.Fatal(err)
	}
	if err := l.Commit([]api.Op{replace("further", "x")}); err != nil {
		t.Fatalf("%s: a further Commit answers %v", how, err)
	}
}

// numbers is a row of small numbers for a crash.
func numbers(r *rand.Rand) []int {
	row := make([]int, r.Intn(10))
	for i := range row {
		row[i] = r.Intn(60)
	}
	return row
}

// P6.2: the power goes behind every step of a Commit; every short row of numbers tells what stays.
func TestCutCommit(t *testing.T) {
	for i, s := range scenes() {
		for n := 0; ; n++ {
			_, _, err := s.begun(t, n)
			for names := range 5 {
				for first := range 4 {
					for size := range 8 {
						d, ahead, err := s.begun(t, n)
						d.Crash([]int{names, first, size, first, size, size, first})
						s.holds(t, d, ahead, err, fmt.Sprintf("scene %d, cut behind %d steps, crash %d %d %d", i, n, names, first, size))
					}
				}
			}
			if err == nil {
				break
			}
		}
	}
}

// P6.2: then the power goes within up to three Opens, too, each at any step; the quota fell meanwhile.
func TestCutCommitAndOpens(t *testing.T) {
	r := rand.New(rand.NewSource(62))
	for i, s := range scenes() {
		for n := 0; ; n++ {
			var answered error
			for m := range 16 {
				for range 25 {
					d, ahead, err := s.begun(t, n)
					answered = err
					row := numbers(r)
					d.Crash(row)
					must(t, d.SetQuota(r.Intn(12)))
					how := fmt.Sprintf("scene %d, cut behind %d steps, crash %v", i, n, row)
					for cut := m; ; cut = r.Intn(14) {
						d.Arm(cut)
						_, err := redo.Open(d)
						if err != nil && err != api.ErrPower {
							t.Fatalf("%s: Open answers %v", how, err)
						}
						row := numbers(r)
						d.Crash(row)
						how += fmt.Sprintf(", Open cut behind %d steps, crash %v", cut, row)
						if r.Intn(3) == 0 {
							break
						}
					}
					s.holds(t, d, ahead, answered, how)
				}
			}
			if answered == nil {
				break
			}
		}
	}
}

// P6.2: many changes one behind the other on one disk, the power going now and then.
func TestCutsOneBehindTheOther(t *testing.T) {
	r := rand.New(rand.NewSource(26))
	for range 150 {
		l, d := newLog(t, 10000)
		for range 60 {
			ops := randomOps(r, 1+r.Intn(6), 8)
			for i, op := range ops {
				if op.Kind == api.OpAppend {
					b, _ := l.Read(op.Name)
					ops[i].At = len(b)
				}
			}
			ahead, behind := filesOf(l), behindText(l, ops)
			d.Arm(r.Intn(60))
			err := l.Commit(ops)
			if err == nil && filesOf(l) != behind {
				t.Fatalf("%s of %q: %q, want %q", told(ops), ahead, filesOf(l), behind)
			}
			if err != nil && err != api.ErrPower {
				t.Fatal(err)
			}
			d.Crash(numbers(r))
			for r.Intn(2) == 0 {
				d.Arm(r.Intn(20))
				redo.Open(d)
				d.Crash(numbers(r))
			}
			var opened error
			if l, opened = redo.Open(d); opened != nil {
				t.Fatal(opened)
			}
			if got := filesOf(l); got != behind && (err == nil || got != ahead) {
				t.Fatalf("%s: %q is neither %q nor %q", told(ops), got, ahead, behind)
			}
		}
	}
}
