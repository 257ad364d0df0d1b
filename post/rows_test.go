package post_test

import (
	"fmt"
	"slices"
	"strings"
	"testing"

	"postbag/api"
	"postbag/post"
)

// A record is what P15.2 says that lasts: of each Valid and number the message, of each Valid how far its numbers went, how far Valids and items' numbers went.
type record struct {
	messages            map[[2]int]api.Message
	next                map[int]int
	nextValid, nextItem int
	valids              map[int]bool
}

func newRecord(s api.State) *record {
	r := &record{messages: map[[2]int]api.Message{}, next: map[int]int{}, valids: map[int]bool{}}
	r.take(s, post.Answer{}, api.Act{})
	return r
}

// take says what doesn't last, behind an act; "" if all does.
func (r *record) take(s api.State, answer post.Answer, a api.Act) string {
	if s.NextValid < r.nextValid || s.NextItem < r.nextItem {
		return "NextValid or NextItem falls"
	}
	valids := map[int]bool{}
	for _, b := range s.Boxes {
		valids[b.Valid] = true
		if !r.valids[b.Valid] && b.Valid < r.nextValid {
			return fmt.Sprint("Valid ", b.Valid, " is given again")
		}
		if b.Next < r.next[b.Valid] {
			return fmt.Sprint("Next of ", b.Valid, " falls")
		}
		for _, m := range b.Messages {
			key := [2]int{b.Valid, m.Uid}
			was, known := r.messages[key]
			if known && (was.Body != m.Body || was.Date != m.Date) {
				return fmt.Sprint("the message ", key, " is another one")
			}
			if !known && m.Uid < r.next[b.Valid] {
				return fmt.Sprint("the number ", key, " is given again")
			}
			r.messages[key] = m
		}
		r.next[b.Valid] = b.Next
	}
	if a.Kind != api.ActDelete && a.Kind != 0 {
		for valid := range r.valids {
			if !valids[valid] {
				return fmt.Sprint("Valid ", valid, " is gone")
			}
		}
	}
	if answer.N != 0 && answer.N < r.nextItem {
		return fmt.Sprint("the item's number ", answer.N, " is given again")
	}
	r.nextValid, r.nextItem, r.valids = s.NextValid, s.NextItem, valids
	return ""
}

// A maker makes acts that are near what may be done.
type maker struct {
	d      dice
	names  []string
	bodies []string
}

func (k *maker) name() string {
	if k.d.below(12) == 0 {
		return oneOf(&k.d, "", "inbox", "InBox", "a//b", "a b", "a*", "/", "INBOX/a", "é", strings.Repeat("x", 61))
	}
	return oneOf(&k.d, k.names...)
}

func (k *maker) user(s api.State) int {
	if k.d.below(15) == 0 || len(s.Boxes) == 0 {
		return oneOf(&k.d, edges...)
	}
	return oneOf(&k.d, s.Boxes...).User
}

func (k *maker) number(least, most int) int {
	if k.d.below(30) == 0 {
		return oneOf(&k.d, edges...)
	}
	return least + k.d.below(most-least+1)
}

func (k *maker) body() string {
	if k.d.below(60) == 0 {
		return strings.Repeat("y", 100001)
	}
	return oneOf(&k.d, k.bodies...)
}

// uids are numbers, most of them of a box's messages.
func (k *maker) uids(s api.State, user int, name string) []int {
	var uids []int
	for range k.d.below(6) {
		uids = append(uids, k.number(0, 9))
	}
	name, _ = modelName(name)
	if i := post.Find(s, user, name); i >= 0 {
		for _, m := range s.Boxes[i].Messages {
			if k.d.below(3) == 0 {
				uids = append(uids, m.Uid)
			}
		}
	}
	for i := range uids {
		j := k.d.below(i + 1)
		uids[i], uids[j] = uids[j], uids[i]
	}
	return uids
}

func (k *maker) users(s api.State) []int {
	var users []int
	for range k.d.below(4) {
		users = append(users, k.user(s))
	}
	return users
}

// item is the number of an item, most often, and one of its users.
func (k *maker) item(s api.State) (n, user int) {
	if k.d.below(8) == 0 || len(s.Queue) == 0 {
		return k.number(0, s.NextItem), k.user(s)
	}
	item := oneOf(&k.d, s.Queue...)
	return item.Id, oneOf(&k.d, item.For...)
}

// own is a user who has a box, and its name.
func (k *maker) own(s api.State) (user int, name string) {
	if k.d.below(3) == 0 || len(s.Boxes) == 0 {
		return k.user(s), k.name()
	}
	b := oneOf(&k.d, s.Boxes...)
	return b.User, b.Name
}

func (k *maker) act(s api.State) api.Act {
	a := api.Act{
		Kind: k.number(1, 13), How: k.number(0, 2), Flags: k.number(0, 31), Date: k.number(0, 4000000000),
		To: k.name(), From: oneOf(&k.d, "", "a@b", strings.Repeat("f", 200)), Body: k.body(), For: k.users(s),
	}
	a.User, a.Name = k.own(s)
	if k.d.below(2) == 0 {
		_, a.To = k.own(s)
	}
	a.Uids = k.uids(s, a.User, a.Name)
	var waits int
	if a.N, waits = k.item(s); a.Kind == api.ActDeliver {
		a.User = waits
	}
	if a.Kind == api.ActCreate || a.Kind == api.ActSubscribe {
		a.Name = k.name()
	}
	if k.d.below(40) == 0 {
		a.From = strings.Repeat("f", 201)
	}
	return a
}

// walk does a row of made acts, each held against the model, and the record against what is behind it; it tells how many of each kind were done.
func walk(t *testing.T, s api.State, k *maker, steps int, done *[14]int, refused map[string]int) {
	t.Helper()
	r := newRecord(s)
	for range steps {
		a := k.act(s)
		next, answer, err := checkStep(t, s, a)
		if err != nil {
			refused[fmt.Sprint(a.Kind, " ", err)]++
			continue
		}
		done[a.Kind]++
		if fault := r.take(next, answer, a); fault != "" {
			t.Fatalf("behind %s, %s leaves %s: %s", told(s), told(a), told(next), fault)
		}
		s = next
	}
}

// near is a state near all limits: of numbers, boxes, subscriptions and the queue.
func near(d *dice) api.State {
	s := busy()
	s.Boxes[0].Next, s.NextValid, s.NextItem = api.MaxUid-1-d.below(4), api.MaxUid-d.below(4), api.MaxUid-d.below(4)
	for i := range 22 - len(s.Boxes) + d.below(3) {
		s.Boxes = append(s.Boxes, api.Box{User: 2, Name: fmt.Sprint("X", string(rune('a'+i))), Valid: 100 + i, Next: 1})
	}
	s.Queue = append(s.Queue, crowd(20+d.below(3), func(i int) api.Item { return api.Item{Id: 10 + i, For: []int{0, 2}, Tries: i % 6, Body: "z"} })...)
	s.Subs = append(s.Subs, crowd(d.below(4), func(i int) api.Sub { return api.Sub{User: 2, Name: fmt.Sprint("s", i)} })...)
	return s
}

// P15.1, P15.2: rows of acts, from new states and from states near the limits; each kind is done, and refused in each way that rows come to.
func TestRows(t *testing.T) {
	var done [14]int
	refused := map[string]int{}
	few := []string{"INBOX", "A", "a", "a/b", "a/b/b", "b", "b/a", "ab", "a/" + strings.Repeat("x", 57), "abc"}
	small := []string{"", "x", "From a\n>From b", "Subject: s\r\n\r\nhello\r\n"}
	great := []string{"x", strings.Repeat("x", 60000), strings.Repeat("\nFrom ", 9000), strings.Repeat("z", 100000)}
	many := crowd(40, func(i int) string { return fmt.Sprint("n", i) })
	for seed := range 40 {
		for _, k := range []*maker{{dice(seed), few, small}, {dice(seed + 100), few, great}, {dice(seed + 200), append(many, few...), small}} {
			walk(t, mustNew(t, 1+seed%6), k, 150, &done, refused)
			walk(t, near(&k.d), k, 30, &done, refused)
		}
	}
	for kind, n := range done[1:] {
		if n < 100 {
			t.Errorf("kind %d was done %d times", kind+1, n)
		}
	}
	for kind, errs := range map[int][]error{
		api.ActCreate: {api.ErrUser, api.ErrName, api.ErrExists, api.ErrFull}, api.ActDelete: {api.ErrUser, api.ErrName, api.ErrNone},
		api.ActRename: {api.ErrUser, api.ErrName, api.ErrNone, api.ErrLong, api.ErrExists}, api.ActSubscribe: {api.ErrUser, api.ErrName, api.ErrFull},
		api.ActUnsubscribe: {api.ErrUser, api.ErrName, api.ErrNone}, api.ActAppend: {api.ErrUser, api.ErrName, api.ErrNone, api.ErrRange, api.ErrLong, api.ErrFull},
		api.ActCopy: {api.ErrUser, api.ErrName, api.ErrNone, api.ErrFull}, api.ActFlags: {api.ErrUser, api.ErrName, api.ErrNone, api.ErrRange},
		api.ActExpunge: {api.ErrUser, api.ErrName, api.ErrNone}, api.ActQueue: {api.ErrRange, api.ErrName, api.ErrUser, api.ErrLong, api.ErrFull},
		api.ActDeliver: {api.ErrNone, api.ErrRange, api.ErrFull}, api.ActDefer: {api.ErrNone, api.ErrRange}, api.ActBounce: {api.ErrNone, api.ErrRange, api.ErrUser, api.ErrLong, api.ErrFull},
	} {
		for _, err := range errs {
			if refused[fmt.Sprint(kind, " ", err)] == 0 {
				t.Errorf("kind %d was never refused with %v", kind, err)
			}
		}
	}
}

// P15.1, P15.2: all rows of a few acts on two users' few boxes.
func TestShortRows(t *testing.T) {
	acts := []api.Act{
		{Kind: api.ActCreate, Name: "a"},
		{Kind: api.ActCreate, Name: "a/b"},
		{Kind: api.ActDelete, Name: "a"},
		{Kind: api.ActRename, Name: "a", To: "a/b"},
		{Kind: api.ActRename, Name: "a/b", To: "a"},
		{Kind: api.ActAppend, Name: "a", Flags: api.Deleted, Date: 1, Body: "x"},
		{Kind: api.ActAppend, Name: "INBOX", Date: 2, Body: "y"},
		{Kind: api.ActCopy, Name: "a", Uids: []int{2, 1}, To: "INBOX"},
		{Kind: api.ActFlags, Name: "INBOX", Uids: []int{1}, How: api.HowAdd, Flags: api.Deleted},
		{Kind: api.ActExpunge, Name: "INBOX"},
		{Kind: api.ActQueue, For: []int{1, 0}, Date: 3, Body: "z"},
		{Kind: api.ActDeliver, N: 1, User: 0, Date: 4},
		{Kind: api.ActDeliver, N: 1, User: 1, Date: 5},
		{Kind: api.ActDefer, N: 1, Date: 6},
		{Kind: api.ActBounce, N: 1, User: 1, Date: 7, Body: "back"},
	}
	var grow func(s api.State, r record, left int)
	grow = func(s api.State, r record, left int) {
		if left == 0 {
			return
		}
		for _, a := range acts {
			next, answer, err := checkStep(t, s, a)
			if err != nil {
				continue
			}
			mine := r.copied()
			if fault := mine.take(next, answer, a); fault != "" {
				t.Fatalf("behind %s, %s leaves %s: %s", told(s), told(a), told(next), fault)
			}
			grow(next, mine, left-1)
		}
	}
	s := mustNew(t, 2)
	grow(s, *newRecord(s), 4)
}

func (r record) copied() record {
	c := record{messages: map[[2]int]api.Message{}, next: map[int]int{}, valids: r.valids, nextValid: r.nextValid, nextItem: r.nextItem}
	for key, m := range r.messages {
		c.messages[key] = m
	}
	for valid, next := range r.next {
		c.next[valid] = next
	}
	return c
}

// P15.2: what is held behind a step isn't what the caller changes later, nor is it changed by a later step.
func TestNothingKept(t *testing.T) {
	s := rich()
	first, _ := mustStep(t, s, api.Act{Kind: api.ActSubscribe, Name: "new"})
	kept := whole(first)
	s.Boxes[0].Messages[0].Body, s.Boxes[1].Name, s.Subs[0].Name, s.Queue[2].For[1], s.Queue[0].From = "other", "other", "other", 77, "other"
	second, _ := mustStep(t, first, api.Act{Kind: api.ActFlags, Name: "INBOX", Uids: []int{2, 3, 7}, Flags: 4})
	third, _ := mustStep(t, first, api.Act{Kind: api.ActAppend, Name: "INBOX", Body: "third"})
	fourth, _ := mustStep(t, first, api.Act{Kind: api.ActAppend, Name: "INBOX", Body: "fourth"})
	if !isSame(whole(first), kept) {
		t.Errorf("a state comes to %s", told(first))
	}
	for i, want := range []string{"third", "fourth"} {
		if got := []api.State{third, fourth}[i].Boxes[0].Messages[3].Body; got != want {
			t.Errorf("two steps from one state share a message: %q, and not %q", got, want)
		}
	}
	if slices.Equal(second.Boxes[0].Messages, first.Boxes[0].Messages) {
		t.Error("ActFlags changes nothing")
	}
}
