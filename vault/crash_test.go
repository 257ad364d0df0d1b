package vault_test

import (
	"fmt"
	"math/rand"
	"strings"
	"testing"

	"postbag/api"
	"postbag/disk"
	"postbag/post"
	"postbag/vault"
)

const room = 1 << 20

// diskOf is a disk with a state's files, all of them sure.
func diskOf(t *testing.T, s api.State) *disk.Disk {
	t.Helper()
	d := newDisk(t, room)
	files := filesOf(s)
	files["redo"] = ""
	for name, b := range files {
		must(t, d.Create(name), d.Append(name, []byte(b)), d.Sync(name))
	}
	must(t, d.SyncDir())
	return d
}

// opened is a vault on a disk with a state's files.
func opened(t *testing.T, s api.State) (*vault.Vault, *disk.Disk) {
	t.Helper()
	d := diskOf(t, s)
	v, err := vault.Open(d)
	must(t, err)
	return v, d
}

// busy is a state of three users, with something of everything.
func busy(t *testing.T) api.State {
	t.Helper()
	v, err := vault.Format(newDisk(t, room), 3)
	must(t, err)
	for _, a := range []api.Act{
		{Kind: api.ActCreate, Name: "a"},
		{Kind: api.ActCreate, Name: "a/b"},
		{Kind: api.ActCreate, Name: "gone"},
		{Kind: api.ActSubscribe, Name: "a"},
		{Kind: api.ActAppend, Name: "INBOX", Flags: api.Deleted, Date: 1, Body: "one"},
		{Kind: api.ActAppend, Name: "INBOX", Flags: api.Seen, Date: 2, Body: "From two\n>From two"},
		{Kind: api.ActAppend, Name: "a", Date: 3, Body: ""},
		{Kind: api.ActAppend, Name: "gone", Flags: api.Deleted, Date: 4, Body: "x"},
		{Kind: api.ActQueue, For: []int{1, 0}, Date: 5, Body: "for two"},
		{Kind: api.ActQueue, From: "a@b", For: []int{2}, Date: 6, Body: "Subject: s\r\n\r\nfor one\r\n"},
		{Kind: api.ActQueue, From: "a@b", For: []int{2}, Date: 7},
	} {
		_, err := v.Do(a)
		must(t, err)
	}
	return v.State()
}

// acts are acts on the busy state, of each kind, and of each way in which files become others.
func acts() []api.Act {
	return []api.Act{
		{Kind: api.ActCreate, User: 1, Name: "new"},
		{Kind: api.ActDelete, Name: "a"},
		{Kind: api.ActDelete, Name: "a/b"},
		{Kind: api.ActRename, Name: "a", To: "c"},
		{Kind: api.ActSubscribe, User: 2, Name: "any"},
		{Kind: api.ActUnsubscribe, Name: "a"},
		{Kind: api.ActAppend, User: 1, Name: "inbox", Flags: api.Draft, Date: 9, Body: "first"},
		{Kind: api.ActAppend, Name: "INBOX", Date: 9, Body: "From third"},
		{Kind: api.ActCopy, Name: "INBOX", Uids: []int{2, 1}, To: "a"},
		{Kind: api.ActCopy, Name: "INBOX", Uids: []int{1}, To: "a/b"},
		{Kind: api.ActFlags, Name: "INBOX", Uids: []int{1, 2}, How: api.HowAdd, Flags: api.Flagged},
		{Kind: api.ActExpunge, Name: "INBOX"},
		{Kind: api.ActExpunge, Name: "gone"},
		{Kind: api.ActQueue, From: "c@d", For: []int{0, 1, 2}, Date: 9, Body: "more"},
		{Kind: api.ActQueue, For: []int{1}, Date: 9},
		{Kind: api.ActDeliver, N: 1, User: 0, Date: 9},
		{Kind: api.ActDeliver, N: 2, User: 2, Date: 9},
		{Kind: api.ActDeliver, N: 3, User: 2, Date: 9},
		{Kind: api.ActDefer, N: 2, Date: 99},
		{Kind: api.ActBounce, N: 1, User: 2, Date: 9, Body: "back"},
		{Kind: api.ActBounce, N: 2, User: -1, Date: 9},
	}
}

// A cut is an act that was begun, and how it came out.
type cut struct {
	act           api.Act
	ahead, behind api.State
	v             *vault.Vault
	d             *disk.Disk
	err           error
	how           string
}

// newCut does an act; the power goes behind n steps.
func newCut(t *testing.T, s api.State, a api.Act, n int) *cut {
	t.Helper()
	behind, answer, err := post.Step(s, a)
	must(t, err)
	c := &cut{act: a, ahead: s, behind: behind, how: fmt.Sprintf("%s, cut behind %d steps", told(a), n)}
	c.v, c.d = opened(t, s)
	c.d.Arm(n)
	got, err := c.v.Do(a)
	c.err = err
	switch {
	case err == nil && (told(got) != told(answer) || c.v.Dead() || !c.v.Sound() || !post.Same(c.v.State(), behind)):
		t.Fatalf("%s: Do answers %v, dead: %v, sound: %v, state %s", c.how, got, c.v.Dead(), c.v.Sound(), told(c.v.State()))
	case err != nil && (err != api.ErrPower || told(got) != told(post.Answer{}) || !c.v.Dead() || c.v.Sound() || !post.Same(c.v.State(), s)):
		t.Fatalf("%s: Do answers %v, %v, dead: %v, sound: %v, state %s", c.how, got, err, c.v.Dead(), c.v.Sound(), told(c.v.State()))
	}
	return c
}

func (c *cut) crash(keep ...int) {
	c.d.Crash(keep)
	c.how += fmt.Sprintf(", crash %v", keep)
}

// open cuts an Open behind n steps.
func (c *cut) open(t *testing.T, n int) {
	t.Helper()
	c.d.Arm(n)
	c.how += fmt.Sprintf(", Open cut behind %d steps", n)
	v, err := vault.Open(c.d)
	if err == nil {
		c.isEither(t, v)
	} else if err != api.ErrPower || v != nil {
		t.Fatalf("%s: Open answers %v, %v", c.how, v, err)
	}
}

// isEither holds what was opened against the two states that may be.
func (c *cut) isEither(t *testing.T, v *vault.Vault) {
	t.Helper()
	s := v.State()
	if !post.Same(s, c.behind) && (c.err == nil || !post.Same(s, c.ahead)) {
		t.Fatalf("%s: the state is %s; ahead %s, behind %s, answered %v", c.how, told(s), told(c.ahead), told(c.behind), c.err)
	}
	if v.Dead() || !v.Sound() {
		t.Fatalf("%s: dead: %v, sound: %v", c.how, v.Dead(), v.Sound())
	}
}

// holds opens the vault at last: its state is one of the two, stays so, and it goes on.
func (c *cut) holds(t *testing.T) {
	t.Helper()
	v, err := vault.Open(c.d)
	if err != nil {
		t.Fatalf("%s: Open answers %v", c.how, err)
	}
	c.isEither(t, v)
	if _, err := c.v.Do(c.act); c.err != nil && (err != api.ErrState || !c.v.Dead() || c.v.Sound() || !post.Same(c.v.State(), c.ahead)) {
		t.Fatalf("%s: the dead vault answers %v, dead: %v, sound: %v", c.how, err, c.v.Dead(), c.v.Sound())
	}
	if c.err == nil {
		return // the vault isn't dead, and did the act once more, or not
	}
	c.d.Crash([]int{1, 1, 1})
	again, err := vault.Open(c.d)
	if err != nil || !post.Same(again.State(), v.State()) {
		t.Fatalf("%s: behind another crash %s became another state, %v", c.how, told(v.State()), err)
	}
	must(t, c.d.SetQuota(room))
	answer, err := again.Do(api.Act{Kind: api.ActAppend, User: 1, Name: "INBOX", Body: "further"})
	if err != nil || len(answer.Uids) != 1 || !again.Sound() {
		t.Fatalf("%s: a further act answers %v, %v", c.how, answer, err)
	}
}

// P17.2: the power goes behind every step of a Do of each kind; every short row of numbers tells what stays.
func TestCutDo(t *testing.T) {
	s := busy(t)
	for _, a := range acts() {
		for n, answered := 0, false; !answered; n++ {
			for names := range 4 {
				for first := range 3 {
					for _, size := range []int{0, 1, 9, 40, 333} {
						c := newCut(t, s, a, n)
						answered = c.err == nil
						c.crash(names, first, size, first, size, size, first)
						c.holds(t)
					}
				}
			}
		}
	}
}

// P17.2: then the power goes within up to some Opens, too, each at any step; the quota fell meanwhile.
func TestCutDoAndOpens(t *testing.T) {
	s := busy(t)
	r := rand.New(rand.NewSource(172))
	for _, a := range acts() {
		for n, answered := 0, false; !answered; n++ {
			for m := range 14 {
				for range 4 {
					c := newCut(t, s, a, n)
					answered = c.err == nil
					c.crash(numbers(r)...)
					must(t, c.d.SetQuota(r.Intn(12)))
					for steps := m; ; steps = r.Intn(14) {
						c.open(t, steps)
						c.crash(numbers(r)...)
						if r.Intn(3) == 0 {
							break
						}
					}
					c.holds(t)
				}
			}
		}
	}
}

// P17.2: many acts one behind the other on one disk, the power going now and then; and what lasts along them: numbers of boxes and messages, and what these have.
func TestCutsOneBehindTheOther(t *testing.T) {
	cuts := 0
	for seed := range 60 {
		r := rand.New(rand.NewSource(int64(seed)))
		d := newDisk(t, room)
		v, err := vault.Format(d, 3)
		must(t, err)
		bound := map[[2]int]string{}
		for range 80 {
			ahead := v.State()
			a := madeAct(r, ahead)
			behind, wanted, refused := post.Step(ahead, a)
			d.Arm(r.Intn(60))
			answer, err := v.Do(a)
			if err == nil && (refused != nil || told(answer) != told(wanted) || !post.Same(v.State(), behind)) || err != nil && err != refused && err != api.ErrPower && err != api.ErrForm {
				t.Fatalf("%s answers %v, %v", told(a), answer, err)
			}
			for d.Crash(numbers(r)); r.Intn(2) == 0; d.Crash(numbers(r)) {
				d.Arm(r.Intn(20))
				vault.Open(d)
			}
			var broken error
			if v, broken = vault.Open(d); broken != nil {
				t.Fatalf("Open answers %v", broken)
			}
			s := v.State()
			isAhead, isBehind := post.Same(s, ahead), refused == nil && post.Same(s, behind)
			if !isBehind && (!isAhead || err == nil) || err != nil && err != api.ErrPower && !isAhead || !v.Sound() {
				t.Fatalf("%s: the state is %s; ahead %s, behind %s, answered %v", told(a), told(s), told(ahead), told(behind), err)
			}
			if err == api.ErrPower && isBehind && !isAhead {
				cuts++
			}
			if s.NextValid < ahead.NextValid || s.NextItem < ahead.NextItem {
				t.Fatalf("%s: numbers fell: %s", told(a), told(s))
			}
			bind(t, bound, s)
		}
	}
	if cuts < 100 {
		t.Errorf("only %d acts were cut, and are there", cuts)
	}
}

// bind holds each message's number against what it was bound to.
func bind(t *testing.T, bound map[[2]int]string, s api.State) {
	t.Helper()
	for _, b := range s.Boxes {
		for _, m := range b.Messages {
			key, what := [2]int{b.Valid, m.Uid}, fmt.Sprint(m.Date, m.Body)
			if was, is := bound[key]; is && was != what {
				t.Fatalf("message %v was %q, and is %q", key, was, what)
			}
			bound[key] = what
		}
	}
}

// P17.2: an act without room is refused, and changes nothing; with just that room it is done.
func TestQuota(t *testing.T) {
	s := busy(t)
	for _, a := range acts() {
		behind, answer, err := post.Step(s, a)
		must(t, err)
		v, d := opened(t, s)
		needed, err := v.Room(plainOps(s, behind))
		must(t, err)
		for _, quota := range []int{0, d.Used() - 1, d.Used(), d.Used() + 1, d.Used() + needed - 1} {
			must(t, d.SetQuota(quota))
			isRefused(t, v, d, a, api.ErrQuota)
		}
		must(t, d.SetQuota(d.Used()+needed))
		if got, err := v.Do(a); err != nil || told(got) != told(answer) || !post.Same(v.State(), behind) || !v.Sound() {
			t.Errorf("%s with just its room answers %v, %v", told(a), got, err)
		}
	}
}

// isRefused does an act that is refused, and asks whether anything changed.
func isRefused(t *testing.T, v *vault.Vault, d *disk.Disk, a api.Act, want error) {
	t.Helper()
	state, files, steps, open, dead, sound := v.State(), contents(d), d.Steps(), d.Open(), v.Dead(), v.Sound()
	answer, err := v.Do(a)
	if err != want || told(answer) != told(post.Answer{}) {
		t.Errorf("%q answers %v, %v, and not %v", told(a), answer, err, want)
	}
	if !post.Same(v.State(), state) || told(contents(d)) != told(files) || d.Steps() != steps || d.Open() != open || v.Dead() != dead || v.Sound() != sound {
		t.Errorf("%q, which is refused with %v, changes something", told(a), want)
	}
}

// P17.2: acts that are refused for any other reason change nothing, either.
func TestRefused(t *testing.T) {
	v, d := opened(t, busy(t))
	long := strings.Repeat("x", api.MaxMessage+1)
	for _, k := range []struct {
		err error
		a   api.Act
	}{
		{api.ErrForm, api.Act{}},
		{api.ErrForm, api.Act{Kind: 14}},
		{api.ErrForm, api.Act{Kind: -1}},
		{api.ErrUser, api.Act{Kind: api.ActCreate, User: 3, Name: "x"}},
		{api.ErrName, api.Act{Kind: api.ActCreate, Name: "x//y"}},
		{api.ErrExists, api.Act{Kind: api.ActCreate, Name: "a"}},
		{api.ErrName, api.Act{Kind: api.ActDelete, Name: "inbox"}},
		{api.ErrNone, api.Act{Kind: api.ActDelete, Name: "x"}},
		{api.ErrExists, api.Act{Kind: api.ActRename, Name: "a", To: "gone"}},
		{api.ErrLong, api.Act{Kind: api.ActRename, Name: "a", To: strings.Repeat("n", 59)}},
		{api.ErrNone, api.Act{Kind: api.ActUnsubscribe, Name: "x"}},
		{api.ErrRange, api.Act{Kind: api.ActAppend, Name: "INBOX", Date: -1}},
		{api.ErrRange, api.Act{Kind: api.ActAppend, Name: "INBOX", Flags: 32}},
		{api.ErrLong, api.Act{Kind: api.ActAppend, Name: "INBOX", Body: long}},
		{api.ErrNone, api.Act{Kind: api.ActCopy, Name: "INBOX", To: "x"}},
		{api.ErrRange, api.Act{Kind: api.ActFlags, Name: "INBOX", How: 3}},
		{api.ErrUser, api.Act{Kind: api.ActExpunge, User: -1, Name: "INBOX"}},
		{api.ErrUser, api.Act{Kind: api.ActQueue, For: []int{0, 3}}},
		{api.ErrUser, api.Act{Kind: api.ActQueue}},
		{api.ErrName, api.Act{Kind: api.ActQueue, From: strings.Repeat("f", 201), For: []int{0}}},
		{api.ErrLong, api.Act{Kind: api.ActQueue, For: []int{0}, Body: long}},
		{api.ErrNone, api.Act{Kind: api.ActDeliver, N: 4}},
		{api.ErrNone, api.Act{Kind: api.ActDefer, N: 4}},
		{api.ErrRange, api.Act{Kind: api.ActDefer, N: 1, Date: api.MaxTime + 1}},
		{api.ErrUser, api.Act{Kind: api.ActBounce, N: 1, User: 3}},
	} {
		isRefused(t, v, d, k.a, k.err)
	}
	full, _ := post.New(1)
	for range api.MaxMessages {
		full, _, _ = post.Step(full, api.Act{Kind: api.ActAppend, Name: "INBOX"})
	}
	v, d = opened(t, full)
	isRefused(t, v, d, api.Act{Kind: api.ActAppend, Name: "INBOX"}, api.ErrFull)
}

// P17.1, P17.2: a Format that is cut leaves no log, no state's files, or the vault; the vault, if it was answered.
func TestCutFormat(t *testing.T) {
	r := rand.New(rand.NewSource(171))
	saw := map[error]int{}
	for n, answered := 0, false; !answered; n++ {
		for range 60 {
			d := newDisk(t, room)
			d.Arm(n)
			v, err := vault.Format(d, 2)
			if answered = err == nil; !answered && (err != api.ErrPower || v != nil) {
				t.Fatalf("Format, cut behind %d steps, answers %v, %v", n, v, err)
			}
			d.Crash(numbers(r))
			w, err := vault.Open(d)
			saw[err]++
			want, _ := post.New(2)
			if err == nil && (!post.Same(w.State(), want) || !w.Sound()) || err != nil && (answered || err != api.ErrNone && err != api.ErrSum || w != nil) {
				t.Fatalf("Format, cut behind %d steps: Open answers %v, %v", n, w, err)
			}
		}
	}
	for _, err := range []error{nil, api.ErrNone, api.ErrSum} {
		if saw[err] < 10 {
			t.Errorf("Open answered %v just %d times", err, saw[err])
		}
	}
}
