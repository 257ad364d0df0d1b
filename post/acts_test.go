package post_test

import (
	"fmt"
	"math"
	"slices"
	"strings"
	"testing"

	"postbag/api"
	"postbag/post"
)

var long59 = strings.Repeat("n", 59)

// busy is a state in which each act may be refused in each way: user 0's boxes are full in different ways, user 1's INBOX has too many messages, user 2 has just an INBOX.
func busy() api.State {
	return api.State{
		Boxes: []api.Box{
			{User: 0, Name: "INBOX", Valid: 1, Next: 1},
			{User: 0, Name: "a", Valid: 2, Next: 3, Messages: []api.Message{{Uid: 1, Flags: api.Deleted, Date: 9, Body: "x"}, {Uid: 2, Flags: api.Seen, Date: 8, Body: "y"}}},
			{User: 0, Name: "a/b", Valid: 3, Next: 1},
			{User: 0, Name: "c", Valid: 4, Next: 1},
			{User: 0, Name: "full", Valid: 5, Next: 101, Messages: messages(100, "")},
			{User: 0, Name: "heavy", Valid: 6, Next: 101, Messages: messages(99, strings.Repeat("x", 1955))},
			{User: 0, Name: long59, Valid: 7, Next: 1},
			{User: 0, Name: "top", Valid: 8, Next: api.MaxUid},
			{User: 1, Name: "INBOX", Valid: 9, Next: 101, Messages: messages(100, "")},
			{User: 2, Name: "INBOX", Valid: 10, Next: 1},
		},
		Subs:      append(subs(20), api.Sub{Name: "sub"}),
		Queue:     []api.Item{{Id: 4, From: "a@b", For: []int{0}, Body: "one"}, {Id: 7, For: []int{0, 1, 2}, Tries: 1, Body: "two"}},
		NextValid: 11,
		NextItem:  8,
	}
}

// A fault is what makes an act be refused.
type fault struct {
	err  error
	make func(s *api.State, a *api.Act)
}

var (
	noForm = fault{api.ErrForm, func(s *api.State, a *api.Act) { s.NextItem = 0 }}
	noKind = fault{api.ErrForm, func(s *api.State, a *api.Act) { a.Kind += 100 }}
	noUser = fault{api.ErrUser, func(s *api.State, a *api.Act) { a.User = 3 }}
	noSuch = fault{api.ErrUser, func(s *api.State, a *api.Act) { a.User = -1 }}
	noName = fault{api.ErrName, func(s *api.State, a *api.Act) { a.Name = "a//b" }}
	noTo   = fault{api.ErrName, func(s *api.State, a *api.Act) { a.To = "" }}
	isIn   = fault{api.ErrName, func(s *api.State, a *api.Act) { a.Name = "iNBOX" }}
	toIn   = fault{api.ErrName, func(s *api.State, a *api.Act) { a.To = "INBOx" }}
	noBox  = fault{api.ErrNone, func(s *api.State, a *api.Act) { a.Name = "none" }}
	noneTo = fault{api.ErrNone, func(s *api.State, a *api.Act) { a.To = "none" }}
	flags  = fault{api.ErrRange, func(s *api.State, a *api.Act) { a.Flags = api.AllFlags + 1 }}
	date   = fault{api.ErrRange, func(s *api.State, a *api.Act) { a.Date = api.MaxTime + 1 }}
	early  = fault{api.ErrRange, func(s *api.State, a *api.Act) { a.Date = -1 }}
	body   = fault{api.ErrLong, func(s *api.State, a *api.Act) { a.Body = strings.Repeat("x", api.MaxMessage+1) }}
	noItem = fault{api.ErrNone, func(s *api.State, a *api.Act) { a.N = 5 }}
	lastId = fault{api.ErrFull, func(s *api.State, a *api.Act) { s.NextItem = api.MaxUid }}
)

func named(err error, name string) fault {
	return fault{err, func(s *api.State, a *api.Act) { a.Name = name }}
}

func to(err error, name string) fault {
	return fault{err, func(s *api.State, a *api.Act) { a.To = name }}
}

func user(err error, user int) fault {
	return fault{err, func(s *api.State, a *api.Act) { a.User = user }}
}

func users(users ...int) fault {
	return fault{api.ErrUser, func(s *api.State, a *api.Act) { a.For = users }}
}

func how(how int) fault {
	return fault{api.ErrRange, func(s *api.State, a *api.Act) { a.How = how }}
}

// refusals are an act of each kind that isn't refused, and what makes it be, in order.
var refusals = []struct {
	a      api.Act
	faults []fault
}{
	{api.Act{Kind: api.ActCreate, Name: "new"}, []fault{noForm, noKind, noUser, noSuch, noName, named(api.ErrExists, "a"), named(api.ErrExists, "inbox"),
		{api.ErrFull, func(s *api.State, a *api.Act) {
			for i := range 24 - len(s.Boxes) {
				s.Boxes = append(s.Boxes, api.Box{User: 2, Name: fmt.Sprintf("X%02d", i), Valid: 11 + i, Next: 1})
			}
			s.NextValid = max(s.NextValid, 99)
		}},
		{api.ErrFull, func(s *api.State, a *api.Act) { s.NextValid = api.MaxUid }}}},
	{api.Act{Kind: api.ActDelete, Name: "a"}, []fault{noForm, noKind, noUser, noSuch, noName, isIn, noBox}},
	{api.Act{Kind: api.ActRename, Name: "a", To: "new"}, []fault{noForm, noKind, noUser, noSuch, noName, noTo, isIn, toIn, noBox, to(api.ErrLong, long59), to(api.ErrExists, "c"), to(api.ErrExists, "a")}},
	{api.Act{Kind: api.ActSubscribe, Name: "new"}, []fault{noForm, noKind, noUser, noSuch, noName, {api.ErrFull, func(s *api.State, a *api.Act) { s.Subs = subs(24) }}}},
	{api.Act{Kind: api.ActUnsubscribe, Name: "sub"}, []fault{noForm, noKind, noUser, noSuch, noName, noBox, named(api.ErrNone, "a"), user(api.ErrNone, 2)}},
	{api.Act{Kind: api.ActAppend, Name: "a", Flags: 3, Date: 44, Body: "z"}, []fault{noForm, noKind, noUser, noSuch, noName, noBox, user(api.ErrNone, 1), flags, early, date, body, named(api.ErrFull, "full"), named(api.ErrFull, "top"),
		{api.ErrFull, func(s *api.State, a *api.Act) { a.Name, a.Body = "heavy", strings.Repeat("x", 1956) }}}},
	{api.Act{Kind: api.ActCopy, Name: "a", Uids: []int{2, 1}, To: "c"}, []fault{noForm, noKind, noUser, noSuch, noName, noTo, noBox, noneTo, to(api.ErrFull, "full"), to(api.ErrFull, "top"),
		{api.ErrFull, func(s *api.State, a *api.Act) {
			s.Boxes[1].Messages[1].Body, a.To = strings.Repeat("x", 1956), "heavy"
		}}}},
	{api.Act{Kind: api.ActFlags, Name: "a", Uids: []int{1}, How: api.HowAdd, Flags: 4}, []fault{noForm, noKind, noUser, noSuch, noName, noBox, how(-1), how(3), flags, {api.ErrRange, func(s *api.State, a *api.Act) { a.Flags = -1 }}}},
	{api.Act{Kind: api.ActExpunge, Name: "a"}, []fault{noForm, noKind, noUser, noSuch, noName, noBox}},
	{api.Act{Kind: api.ActQueue, From: "a@b", For: []int{2, 0}, Date: 50, Body: "z"}, []fault{noForm, noKind, early, date, {api.ErrName, func(s *api.State, a *api.Act) { a.From = strings.Repeat("a", 201) }}, users(), users(0, 3), users(-1, 2), body,
		{api.ErrFull, func(s *api.State, a *api.Act) { s.Queue, s.NextItem = items(24), 25 }}, lastId}},
	{api.Act{Kind: api.ActDeliver, N: 7, User: 2, Date: 50}, []fault{noForm, noKind, noItem, user(api.ErrNone, 3), user(api.ErrNone, -1), early, date, user(api.ErrFull, 1)}},
	{api.Act{Kind: api.ActDefer, N: 7, Date: 50}, []fault{noForm, noKind, noItem, early, date, {api.ErrRange, func(s *api.State, a *api.Act) { s.Queue[1].Tries = 5 }}}},
	{api.Act{Kind: api.ActBounce, N: 7, Date: 50, User: 2, Body: "z"}, []fault{noForm, noKind, noItem, early, date, noUser, user(api.ErrUser, 6), body, lastId}},
	{api.Act{Kind: api.ActBounce, N: 7, Date: 50, User: -1, Body: "z"}, []fault{noForm, noKind, noItem, early, date, body}},
}

// P15.1: acts that could be refused for several reasons are refused for the first one: all sets of reasons. (What makes the first one is done last, so that no other undoes it.)
func TestRefusals(t *testing.T) {
	for _, r := range refusals {
		mustStep(t, busy(), r.a)
		for set := 1; set < 1<<len(r.faults); set++ {
			s, a := busy(), r.a
			var want error
			for i, f := range slices.Backward(r.faults) {
				if set>>i&1 == 1 {
					f.make(&s, &a)
					want = f.err
				}
			}
			if got, answer, err := post.Step(s, a); err != want || !isSame(got, api.State{}) || answer.N != 0 || len(answer.Uids) != 0 {
				t.Fatalf("%s, with faults %b, answers %s, %v, %v, and not %v", told(r.a), set, told(got), answer, err, want)
			}
			if set%7 == 0 || set&(set-1) == 0 {
				refuse(t, s, a, want)
			}
		}
	}
}

// P15.1: acts of no kind.
func TestNoKind(t *testing.T) {
	for _, kind := range edges {
		a := api.Act{Kind: kind, Name: "new", To: "new too", For: []int{0}, From: "a@b"}
		_, _, err := checkStep(t, busy(), a)
		if none := !in(kind, 1, 13); none != (err == api.ErrForm) {
			t.Errorf("Step of kind %d answers %v", kind, err)
		}
	}
}

// P15.1, P15.2: the chapter's example, and what comes of Valid when boxes go.
func TestBoxes(t *testing.T) {
	s := mustNew(t, 1)
	s, _ = mustStep(t, s, api.Act{Kind: api.ActCreate, Name: "a/b"})
	if b := boxOf(t, s, 0, "a/b"); b.Valid != 2 || b.Next != 1 || len(s.Boxes) != 2 || s.NextValid != 3 {
		t.Errorf("behind ActCreate: %+v", s)
	}
	s, _ = mustStep(t, s, api.Act{Kind: api.ActRename, Name: "a/b", To: "c"})
	if b := boxOf(t, s, 0, "c"); b.Valid != 2 || len(s.Boxes) != 2 {
		t.Errorf("behind ActRename: %+v", s)
	}
	s, _ = mustStep(t, s, api.Act{Kind: api.ActAppend, Name: "c", Body: "x"})
	s, _ = mustStep(t, s, api.Act{Kind: api.ActDelete, Name: "c"})
	if len(s.Boxes) != 1 || s.NextValid != 3 {
		t.Errorf("behind ActDelete: %+v", s)
	}
	s, _ = mustStep(t, s, api.Act{Kind: api.ActCreate, Name: "c"})
	if b := boxOf(t, s, 0, "c"); b.Valid != 3 || b.Next != 1 || len(b.Messages) != 0 {
		t.Errorf("behind another ActCreate: %+v", s)
	}
	refuse(t, s, api.Act{Kind: api.ActCreate, Name: "InBoX"}, api.ErrExists)
	s, _ = mustStep(t, s, api.Act{Kind: api.ActCreate, Name: "inbox/a"})
	s, _ = mustStep(t, s, api.Act{Kind: api.ActRename, Name: "inbox/a", To: "INBOX/a"})
	s, _ = mustStep(t, s, api.Act{Kind: api.ActCreate, Name: "A"})
	for i, name := range []string{"A", "INBOX", "INBOX/a", "c"} {
		if s.Boxes[i].Name != name {
			t.Errorf("box %d is %q, and not %q", i, s.Boxes[i].Name, name)
		}
	}
	s, _ = mustStep(t, s, api.Act{Kind: api.ActRename, Name: "A", To: "B"})
	refuse(t, s, api.Act{Kind: api.ActRename, Name: "c", To: "B"}, api.ErrExists)
	s, _ = mustStep(t, s, api.Act{Kind: api.ActDelete, Name: "B"})
	if len(s.Boxes) != 3 || s.Boxes[0].Name != "INBOX" {
		t.Errorf("behind ActDelete of the first box: %+v", s)
	}
}

// P15.1: the last numbers, the last room.
func TestLastOnes(t *testing.T) {
	s := mustNew(t, 1)
	s.NextValid, s.NextItem, s.Boxes[0].Next = api.MaxUid-1, api.MaxUid-1, api.MaxUid-2
	s, _ = mustStep(t, s, api.Act{Kind: api.ActCreate, Name: "a"})
	refuse(t, s, api.Act{Kind: api.ActCreate, Name: "b"}, api.ErrFull)
	s, answer := mustStep(t, s, api.Act{Kind: api.ActQueue, For: []int{0}})
	if answer.N != api.MaxUid-1 {
		t.Errorf("ActQueue answers %v", answer)
	}
	refuse(t, s, api.Act{Kind: api.ActQueue, For: []int{0}}, api.ErrFull)
	refuse(t, s, api.Act{Kind: api.ActBounce, N: api.MaxUid - 1, User: 0}, api.ErrFull)
	mustStep(t, s, api.Act{Kind: api.ActBounce, N: api.MaxUid - 1, User: math.MinInt})
	s, _ = mustStep(t, s, api.Act{Kind: api.ActAppend, Name: "INBOX"})
	both := []int{api.MaxUid - 2, api.MaxUid - 1}
	s, answer = mustStep(t, s, api.Act{Kind: api.ActCopy, Name: "INBOX", Uids: both, To: "INBOX"})
	if !slices.Equal(answer.Uids, both[1:]) || s.Boxes[0].Next != api.MaxUid {
		t.Errorf("ActCopy answers %v", answer)
	}
	refuse(t, s, api.Act{Kind: api.ActCopy, Name: "INBOX", Uids: both, To: "INBOX"}, api.ErrFull)
	refuse(t, s, api.Act{Kind: api.ActAppend, Name: "INBOX"}, api.ErrFull)
	refuse(t, s, api.Act{Kind: api.ActDeliver, N: api.MaxUid - 1}, api.ErrFull)
	mustStep(t, s, api.Act{Kind: api.ActCopy, Name: "INBOX", Uids: both, To: "a"})
	mustStep(t, s, api.Act{Kind: api.ActCopy, Name: "INBOX", To: "INBOX"})
	mustStep(t, s, api.Act{Kind: api.ActFlags, Name: "INBOX", Uids: both, How: api.HowSet, Flags: api.AllFlags})
}

// P15.1: a box takes messages till it has MaxMessages, or MaxBoxBytes.
func TestRoomOfBoxes(t *testing.T) {
	for _, k := range []struct {
		body string
		room int
	}{{"", 100}, {strings.Repeat("x", 1955), 100}, {strings.Repeat("x", 1956), 99}, {"From " + strings.Repeat("x", 1949), 100}, {"From " + strings.Repeat("x", 1950), 99}, {strings.Repeat("x", 99955), 2}, {strings.Repeat("x", 99956), 1}, {strings.Repeat("x", 100000), 1}, {strings.Repeat("\nFrom ", 10000), 2}, {strings.Repeat("\nFrom ", 15000), 1}} {
		s := mustNew(t, 1)
		s, _ = mustStep(t, s, api.Act{Kind: api.ActCreate, Name: "a"})
		s, _ = mustStep(t, s, api.Act{Kind: api.ActAppend, Name: "a", Body: k.body})
		for range k.room {
			s, _ = mustStep(t, s, api.Act{Kind: api.ActCopy, Name: "a", Uids: []int{1}, To: "inbox"})
		}
		refuse(t, s, api.Act{Kind: api.ActCopy, Name: "a", Uids: []int{1}, To: "inbox"}, api.ErrFull)
		refuse(t, s, api.Act{Kind: api.ActAppend, Name: "inbox", Body: k.body}, api.ErrFull)
		s, answer := mustStep(t, s, api.Act{Kind: api.ActQueue, For: []int{0}, Body: k.body})
		refuse(t, s, api.Act{Kind: api.ActDeliver, N: answer.N}, api.ErrFull)
		s, _ = mustStep(t, s, api.Act{Kind: api.ActFlags, Name: "inbox", Uids: []int{1}, Flags: api.Deleted})
		s, _ = mustStep(t, s, api.Act{Kind: api.ActExpunge, Name: "inbox"})
		s, answer = mustStep(t, s, api.Act{Kind: api.ActDeliver, N: answer.N})
		if !slices.Equal(answer.Uids, []int{k.room + 1}) || len(s.Queue) != 0 || len(s.Boxes[0].Messages) != k.room {
			t.Errorf("the delivery of a body of %d bytes answers %v", len(k.body), answer)
		}
	}
}

// P15.1: renamings of all sets of some boxes, from each name to each.
func TestRenames(t *testing.T) {
	names := []string{"A", "a", "a/b", "a/b/b", "ab", "b", "b/b", "INBOX/a"}
	for set := range 1 << len(names) {
		s := mustNew(t, 2)
		for i, name := range names {
			if set>>i&1 == 1 {
				var err error
				if s, _, err = post.Step(s, api.Act{Kind: api.ActCreate, Name: name}); err != nil {
					t.Fatal(err)
				}
			}
		}
		for _, from := range names {
			for _, to := range append(names, "z", "INBOX") {
				checkStep(t, s, api.Act{Kind: api.ActRename, Name: from, To: to})
			}
		}
	}
}

// P15.1: names' lengths behind a renaming: its own, and those of the boxes under it.
func TestRenamesOfLongNames(t *testing.T) {
	for long := 50; long <= 60; long++ {
		s := mustNew(t, 2)
		s, _ = mustStep(t, s, api.Act{Kind: api.ActCreate, Name: "a"})
		s, _ = mustStep(t, s, api.Act{Kind: api.ActCreate, Name: "a/" + strings.Repeat("x", long-2)})
		s, _ = mustStep(t, s, api.Act{Kind: api.ActCreate, User: 1, Name: "a/" + strings.Repeat("x", 58)})
		for more := 1; more <= 12; more++ {
			a := api.Act{Kind: api.ActRename, Name: "a", To: strings.Repeat("b", 1+more)}
			if long+more <= 60 {
				mustStep(t, s, a)
			} else {
				refuse(t, s, a, api.ErrLong)
			}
		}
	}
}

// P15.1: what acts on messages answer and leave.
func TestMessages(t *testing.T) {
	s := rich()
	s, answer := mustStep(t, s, api.Act{Kind: api.ActAppend, Name: "inbox", Flags: api.AllFlags, Date: api.MaxTime, Body: strings.Repeat("x", api.MaxMessage)})
	if !slices.Equal(answer.Uids, []int{9}) || s.Boxes[0].Next != 10 || s.Boxes[0].Messages[3] != (api.Message{Uid: 9, Flags: 31, Date: api.MaxTime, Body: strings.Repeat("x", api.MaxMessage)}) {
		t.Errorf("ActAppend answers %v", answer)
	}
	s, answer = mustStep(t, s, api.Act{Kind: api.ActCopy, Name: "Inbox", Uids: []int{7, 0, 2, -3, 7, 8, 4, math.MaxInt, math.MinInt}, To: "a"})
	if !slices.Equal(answer.Uids, []int{2, 3}) || !slices.Equal(boxOf(t, s, 0, "a").Messages[1:], []api.Message{{Uid: 2, Flags: 9, Date: 5, Body: "From a\n"}, {Uid: 3, Flags: 31, Date: api.MaxTime, Body: "Subject: x\r\n\r\nhello"}}) {
		t.Errorf("ActCopy answers %v, %+v", answer, boxOf(t, s, 0, "a"))
	}
	s, answer = mustStep(t, s, api.Act{Kind: api.ActCopy, Name: "a", Uids: []int{3, 1}, To: "a"})
	if !slices.Equal(answer.Uids, []int{4, 5}) {
		t.Errorf("ActCopy to the same box answers %v", answer)
	}
	s, answer = mustStep(t, s, api.Act{Kind: api.ActExpunge, Name: "a"})
	if !slices.Equal(answer.Uids, []int{2, 3, 5}) || len(boxOf(t, s, 0, "a").Messages) != 2 || boxOf(t, s, 0, "a").Next != 6 {
		t.Errorf("ActExpunge answers %v, %+v", answer, boxOf(t, s, 0, "a"))
	}
	if same, answer := mustStep(t, s, api.Act{Kind: api.ActExpunge, Name: "a"}); !post.Same(s, same) || len(answer.Uids) != 0 {
		t.Errorf("ActExpunge of nothing answers %v", answer)
	}
}

// P15.1: flags set in each way, on each number of flags.
func TestFlags(t *testing.T) {
	s := mustNew(t, 1)
	for flags := range 32 {
		s, _ = mustStep(t, s, api.Act{Kind: api.ActAppend, Name: "INBOX", Flags: flags})
	}
	var even []int
	for uid := 40; uid > -4; uid -= 2 {
		even = append(even, uid, uid)
	}
	for how := range 3 {
		for flags := range 32 {
			next, answer := mustStep(t, s, api.Act{Kind: api.ActFlags, Name: "INBOX", Uids: even, How: how, Flags: flags})
			if len(answer.Uids) != 16 || next.Boxes[0].Messages[4].Flags != 4 {
				t.Fatalf("ActFlags answers %v", answer)
			}
		}
	}
	if same, answer := mustStep(t, s, api.Act{Kind: api.ActFlags, Name: "INBOX", Uids: []int{33, 0}, Flags: 1}); !post.Same(s, same) || len(answer.Uids) != 0 {
		t.Errorf("ActFlags of no message answers %v", answer)
	}
}

// P15.1: subscriptions, with boxes of these names or not; one that is there is no matter of room.
func TestSubscriptions(t *testing.T) {
	s := mustNew(t, 2)
	for i := range 24 {
		s, _ = mustStep(t, s, api.Act{Kind: api.ActSubscribe, User: i % 2, Name: fmt.Sprint("s/", i)})
	}
	refuse(t, s, api.Act{Kind: api.ActSubscribe, Name: "inbox"}, api.ErrFull)
	if same, _ := mustStep(t, s, api.Act{Kind: api.ActSubscribe, User: 1, Name: "s/23"}); !post.Same(s, same) {
		t.Error("ActSubscribe of what is subscribed changes something")
	}
	refuse(t, s, api.Act{Kind: api.ActSubscribe, User: 0, Name: "s/23"}, api.ErrFull)
	s, _ = mustStep(t, s, api.Act{Kind: api.ActUnsubscribe, User: 1, Name: "s/23"})
	s, _ = mustStep(t, s, api.Act{Kind: api.ActSubscribe, Name: "inbox"})
	if s.Subs[0] != (api.Sub{Name: "INBOX"}) {
		t.Errorf("ActSubscribe leaves %+v", s.Subs)
	}
	s, _ = mustStep(t, s, api.Act{Kind: api.ActUnsubscribe, Name: "INboX"})
	refuse(t, s, api.Act{Kind: api.ActUnsubscribe, Name: "INBOX"}, api.ErrNone)
	s, _ = mustStep(t, s, api.Act{Kind: api.ActCreate, Name: "s"})
	s, _ = mustStep(t, s, api.Act{Kind: api.ActCreate, Name: "s/0"})
	subs := slices.Clone(s.Subs)
	s, _ = mustStep(t, s, api.Act{Kind: api.ActRename, Name: "s", To: "t"})
	s, _ = mustStep(t, s, api.Act{Kind: api.ActDelete, Name: "t/0"})
	if !slices.Equal(s.Subs, subs) {
		t.Errorf("boxes that go leave the subscriptions %+v", s.Subs)
	}
}

// P15.1: a message's way through the queue.
func TestQueue(t *testing.T) {
	s := mustNew(t, 6)
	s, answer := mustStep(t, s, api.Act{Kind: api.ActQueue, From: strings.Repeat("a", 200), For: []int{5, 1, 5, 3, 1}, Date: 100, Body: "x", N: 9, User: 77, Name: "?", Uids: []int{3}})
	if answer.N != 1 || len(answer.Uids) != 0 || !isSame(api.State{Queue: s.Queue}, api.State{Queue: []api.Item{{Id: 1, From: strings.Repeat("a", 200), For: []int{1, 3, 5}, Born: 100, Due: 100, Body: "x"}}}) {
		t.Errorf("ActQueue answers %v, %+v", answer, s.Queue)
	}
	s, answer = mustStep(t, s, api.Act{Kind: api.ActDeliver, N: 1, User: 3, Date: 160, Flags: 99, Body: strings.Repeat("y", 200000)})
	if !slices.Equal(answer.Uids, []int{1}) || answer.N != 0 || s.Boxes[3].Messages[0] != (api.Message{Uid: 1, Date: 160, Body: "x"}) || !slices.Equal(s.Queue[0].For, []int{1, 5}) {
		t.Errorf("ActDeliver answers %v, %+v", answer, s)
	}
	refuse(t, s, api.Act{Kind: api.ActDeliver, N: 1, User: 3, Date: 160}, api.ErrNone)
	s, answer = mustStep(t, s, api.Act{Kind: api.ActDefer, N: 1, Date: 40, User: -9})
	if answer.N != 0 || len(answer.Uids) != 0 || s.Queue[0].Tries != 1 || s.Queue[0].Due != 40 || s.Queue[0].Born != 100 {
		t.Errorf("ActDefer answers %v, %+v", answer, s.Queue)
	}
	for tries := 2; tries <= api.MaxTries; tries++ {
		s, _ = mustStep(t, s, api.Act{Kind: api.ActDefer, N: 1, Date: api.MaxTime})
	}
	refuse(t, s, api.Act{Kind: api.ActDefer, N: 1, Date: 40}, api.ErrRange)
	bounced, answer := mustStep(t, s, api.Act{Kind: api.ActBounce, N: 1, Date: 200, User: 0, From: "c@d", For: []int{4}, Body: "y"})
	if answer.N != 2 || !isSame(api.State{Queue: bounced.Queue}, api.State{Queue: []api.Item{{Id: 2, For: []int{0}, Born: 200, Due: 200, Body: "y"}}}) || bounced.NextItem != 3 {
		t.Errorf("ActBounce answers %v, %+v", answer, bounced.Queue)
	}
	gone, answer := mustStep(t, s, api.Act{Kind: api.ActBounce, N: 1, Date: 200, User: -1, Body: "y"})
	if answer.N != 0 || len(gone.Queue) != 0 || gone.NextItem != 2 {
		t.Errorf("ActBounce to nobody answers %v, %+v", answer, gone.Queue)
	}
	s, _ = mustStep(t, s, api.Act{Kind: api.ActDeliver, N: 1, User: 5, Date: 0})
	s, answer = mustStep(t, s, api.Act{Kind: api.ActDeliver, N: 1, User: 1, Date: api.MaxTime})
	if !slices.Equal(answer.Uids, []int{1}) || len(s.Queue) != 0 || s.NextItem != 2 {
		t.Errorf("the last ActDeliver answers %v, %+v", answer, s.Queue)
	}
	refuse(t, s, api.Act{Kind: api.ActDeliver, N: 1, User: 1}, api.ErrNone)
}

// P15.1: a full queue takes a bounce, since one goes for it.
func TestFullQueue(t *testing.T) {
	s := mustNew(t, 1)
	for range 24 {
		s, _ = mustStep(t, s, api.Act{Kind: api.ActQueue, For: []int{0}})
	}
	refuse(t, s, api.Act{Kind: api.ActQueue, For: []int{0}}, api.ErrFull)
	s, answer := mustStep(t, s, api.Act{Kind: api.ActBounce, N: 11})
	if answer.N != 25 || len(s.Queue) != 24 || s.Queue[23].Id != 25 || s.Queue[10].Id != 12 {
		t.Errorf("ActBounce answers %v, %+v", answer, s.Queue)
	}
}

// P15.1: lists of very many numbers are gone through in no great time.
func TestManyNumbers(t *testing.T) {
	many := make([]int, 1<<22)
	for i := range many {
		many[i] = i * 7 % 300
	}
	s := mustNew(t, 1)
	s.Boxes[0].Messages, s.Boxes[0].Next = messages(50, "x"), 51
	for _, a := range []api.Act{{Kind: api.ActFlags, Flags: 1}, {Kind: api.ActCopy, To: "INBOX"}} {
		a.Name, a.Uids = "INBOX", many
		if _, answer, err := post.Step(s, a); err != nil || len(answer.Uids) != 50 {
			t.Errorf("kind %d of many numbers answers %v, %v", a.Kind, answer, err)
		}
	}
	if _, _, err := post.Step(s, api.Act{Kind: api.ActQueue, For: many}); err != api.ErrUser {
		t.Errorf("ActQueue for many users answers %v", err)
	}
	clear(many)
	next, _, err := post.Step(s, api.Act{Kind: api.ActQueue, For: many})
	if err != nil || !slices.Equal(next.Queue[0].For, []int{0}) {
		t.Errorf("ActQueue for one user many times answers %v", err)
	}
	wide := api.State{NextValid: 1, NextItem: 1, Boxes: make([]api.Box, 1<<18), Subs: make([]api.Sub, 1<<18), Queue: make([]api.Item, 1<<18)}
	wide.Queue[0].For = many
	if post.Check(wide) != api.ErrForm || !post.Same(wide, wide) || post.Find(wide, 1, "") != -1 {
		t.Error("a state of many things is taken for another one")
	}
}
