package post_test

import (
	"errors"
	"fmt"
	"slices"
	"strings"
	"testing"

	"postbag/api"
	"postbag/post"
)

// P15.1: states of users.
func TestNew(t *testing.T) {
	for users := 1; users <= api.MaxUsers; users++ {
		want := api.State{NextValid: users + 1, NextItem: 1}
		for user := range users {
			want.Boxes = append(want.Boxes, api.Box{User: user, Name: "INBOX", Valid: user + 1, Next: 1})
		}
		s, err := post.New(users)
		if err != nil || !isSame(s, want) || post.Check(s) != nil {
			t.Errorf("New(%d) answers %+v, %v", users, s, err)
		}
		s.Boxes[0].Name = "other"
		if again, err := post.New(users); err != nil || !isSame(again, want) {
			t.Errorf("New(%d) answers %+v, %v then", users, again, err)
		}
	}
	for _, users := range edges {
		s, err := post.New(users)
		if in(users, 1, 6) != (err == nil) || err != nil && (!errors.Is(err, api.ErrRange) || !isSame(s, api.State{})) {
			t.Errorf("New(%d) answers %+v, %v", users, s, err)
		}
	}
}

// rich is a state in form that has something of everything, with room below all limits but one user who isn't there: users 0, 1 and 4.
func rich() api.State {
	return api.State{
		Boxes: []api.Box{
			{User: 0, Name: "INBOX", Valid: 3, Next: 9, Messages: []api.Message{
				{Uid: 2, Flags: api.Seen | api.Deleted, Date: 5, Body: "From a\n"},
				{Uid: 3, Flags: 0, Date: 0, Body: ""},
				{Uid: 7, Flags: api.AllFlags, Date: api.MaxTime, Body: "Subject: x\r\n\r\nhello"},
			}},
			{User: 0, Name: "a", Valid: 1, Next: 2, Messages: []api.Message{{Uid: 1, Flags: api.Draft, Date: 77, Body: "x"}}},
			{User: 0, Name: "a/b", Valid: 2, Next: 1},
			{User: 1, Name: "INBOX", Valid: 10, Next: 1},
			{User: 4, Name: "INBOX", Valid: 4, Next: 4, Messages: []api.Message{{Uid: 3, Flags: api.Deleted, Body: "y"}}},
			{User: 4, Name: "z", Valid: 19, Next: 5},
		},
		Subs: []api.Sub{{User: 0, Name: "INBOX"}, {User: 0, Name: "none"}, {User: 4, Name: "a/b"}},
		Queue: []api.Item{
			{Id: 2, From: "a@b", For: []int{0, 4}, Born: 3, Tries: 1, Due: 63, Body: "one"},
			{Id: 5, From: "", For: []int{1}, Born: api.MaxTime, Tries: 5, Due: 0, Body: ""},
			{Id: 6, From: "c@d", For: []int{0, 1, 4}, Born: 9, Tries: 0, Due: 9, Body: "two"},
		},
		NextValid: 20,
		NextItem:  8,
	}
}

// crowd is how many of something, made one by one.
func crowd[T any](n int, one func(i int) T) []T {
	var list []T
	for i := range n {
		list = append(list, one(i))
	}
	return list
}

func boxes(n int) []api.Box {
	return append([]api.Box{{Name: "INBOX", Valid: 1, Next: 1}}, crowd(n-1, func(i int) api.Box {
		return api.Box{Name: fmt.Sprintf("b%02d", i), Valid: i + 2, Next: 1}
	})...)
}

func subs(n int) []api.Sub {
	return crowd(n, func(i int) api.Sub { return api.Sub{Name: fmt.Sprintf("s%02d", i)} })
}

func items(n int) []api.Item {
	return crowd(n, func(i int) api.Item { return api.Item{Id: i + 1, For: []int{0}} })
}

func messages(n int, body string) []api.Message {
	return crowd(n, func(i int) api.Message { return api.Message{Uid: i + 1, Body: body} })
}

type change = func(s *api.State)

// inForm are changes of the rich state that leave it in form.
var inForm = map[string]change{
	"nothing":                   func(s *api.State) {},
	"nobody":                    func(s *api.State) { *s = api.State{NextValid: 1, NextItem: 1} },
	"empty lists":               func(s *api.State) { s.Boxes[2].Messages, s.Subs = []api.Message{}, []api.Sub{} },
	"MaxUsers":                  func(s *api.State) { s.Boxes[4].User, s.Boxes[5].User, s.Subs[2].User, s.Queue = 5, 5, 5, nil },
	"MaxBoxes":                  func(s *api.State) { s.Boxes, s.Subs, s.Queue, s.NextValid = boxes(24), nil, nil, 25 },
	"longest name":              func(s *api.State) { s.Boxes[5].Name = strings.Repeat("z", 60) },
	"name behind INBOX":         func(s *api.State) { s.Boxes[5].Name = "INBOX/a" },
	"name ahead of INBOX":       func(s *api.State) { s.Boxes[4].Name, s.Boxes[5].Name = "A", "INBOX" },
	"Valid one below NextValid": func(s *api.State) { s.NextValid = 20 },
	"Valid 1":                   func(s *api.State) { s.Boxes[0].Valid, s.Boxes[1].Valid = 1, 3 },
	"Valid at the limit":        func(s *api.State) { s.NextValid, s.Boxes[0].Valid = api.MaxUid, api.MaxUid-1 },
	"Next 1":                    func(s *api.State) { s.Boxes[3].Next = 1 },
	"Next MaxUid":               func(s *api.State) { s.Boxes[3].Next = api.MaxUid },
	"Uid at the limit":          func(s *api.State) { s.Boxes[0].Next, s.Boxes[0].Messages[2].Uid = api.MaxUid, api.MaxUid-1 },
	"Uid one below Next":        func(s *api.State) { s.Boxes[0].Messages[2].Uid = 8 },
	"longest body":              func(s *api.State) { s.Boxes[0].Messages[2].Body = strings.Repeat("x", 100000) },
	"MaxMessages":               func(s *api.State) { s.Boxes[3].Messages, s.Boxes[3].Next = messages(100, ""), 101 },
	"MaxBoxBytes": func(s *api.State) {
		s.Boxes[3].Messages, s.Boxes[3].Next = messages(100, strings.Repeat("x", 1955)), 101
	},
	"MaxBoxBytes of quoted": func(s *api.State) {
		s.Boxes[3].Messages, s.Boxes[3].Next = messages(100, "From "+strings.Repeat("x", 1949)), 101
	},
	"MaxBoxes subscriptions":  func(s *api.State) { s.Subs = subs(24) },
	"MaxQueue":                func(s *api.State) { s.Queue, s.NextItem = items(24), 25 },
	"Id at the limit":         func(s *api.State) { s.NextItem, s.Queue[2].Id = api.MaxUid, api.MaxUid-1 },
	"Id one below NextItem":   func(s *api.State) { s.NextItem = 7 },
	"Id 1":                    func(s *api.State) { s.Queue[0].Id = 1 },
	"longest From":            func(s *api.State) { s.Queue[0].From = strings.Repeat("\xff", 200) },
	"longest body of an item": func(s *api.State) { s.Queue[0].Body = strings.Repeat("x", 100000) },
	"no queue":                func(s *api.State) { s.Queue = nil },
	"NextValid MaxUid":        func(s *api.State) { s.NextValid = api.MaxUid },
	"NextItem MaxUid":         func(s *api.State) { s.NextItem = api.MaxUid },
	"Tries MaxTries":          func(s *api.State) { s.Queue[0].Tries = 5 },
	"times of items":          func(s *api.State) { s.Queue[0].Born, s.Queue[0].Due = api.MaxTime, api.MaxTime },
}

// notInForm are changes of the rich state that leave it not in form.
var notInForm = map[string]change{
	"the zero state":         func(s *api.State) { *s = api.State{} },
	"users swapped":          func(s *api.State) { s.Boxes[3], s.Boxes[4] = s.Boxes[4], s.Boxes[3] },
	"names swapped":          func(s *api.State) { s.Boxes[1], s.Boxes[2] = s.Boxes[2], s.Boxes[1] },
	"names swapped by bytes": func(s *api.State) { s.Boxes[1].Name = "A" },
	"a name twice":           func(s *api.State) { s.Boxes[2].Name = "a" },
	"User below 0": func(s *api.State) {
		s.Boxes[0].User, s.Boxes[1].User, s.Boxes[2].User, s.Subs, s.Queue = -1, -1, -1, nil, nil
	},
	"User MaxUsers":               func(s *api.State) { s.Boxes[4].User, s.Boxes[5].User, s.Subs, s.Queue = 6, 6, nil, nil },
	"more than MaxBoxes":          func(s *api.State) { s.Boxes, s.Subs, s.Queue, s.NextValid = boxes(25), nil, nil, 26 },
	"no name":                     func(s *api.State) { s.Boxes[3].Name = "" },
	"the name is none":            func(s *api.State) { s.Boxes[2].Name = "a//b" },
	"a name too long":             func(s *api.State) { s.Boxes[5].Name = strings.Repeat("z", 61) },
	"a name is another one":       func(s *api.State) { s.Boxes[2].Name = "inbox" },
	"Valid 0":                     func(s *api.State) { s.Boxes[0].Valid = 0 },
	"Valid below 0":               func(s *api.State) { s.Boxes[0].Valid = -1 },
	"Valid NextValid":             func(s *api.State) { s.NextValid = 19 },
	"Valid twice":                 func(s *api.State) { s.Boxes[0].Valid = 19 },
	"Valid twice, side by side":   func(s *api.State) { s.Boxes[1].Valid = 2 },
	"Next 0":                      func(s *api.State) { s.Boxes[3].Next = 0 },
	"Next above MaxUid":           func(s *api.State) { s.Boxes[3].Next = api.MaxUid + 1 },
	"no INBOX":                    func(s *api.State) { s.Boxes[3].Name, s.Queue = "a", nil },
	"no INBOX beside another box": func(s *api.State) { s.Boxes[4].Name, s.Subs, s.Queue = "a", nil, nil },
	"Uid 0":                       func(s *api.State) { s.Boxes[0].Messages[0].Uid = 0 },
	"Uid below 0":                 func(s *api.State) { s.Boxes[1].Messages[0].Uid = -1 },
	"Uid twice":                   func(s *api.State) { s.Boxes[0].Messages[0].Uid = 3 },
	"Uids swapped":                func(s *api.State) { s.Boxes[0].Messages[0].Uid = 4 },
	"Uid Next":                    func(s *api.State) { s.Boxes[0].Messages[2].Uid = 9 },
	"flags below 0":               func(s *api.State) { s.Boxes[0].Messages[1].Flags = -1 },
	"flags above AllFlags":        func(s *api.State) { s.Boxes[0].Messages[1].Flags = 32 },
	"date below 0":                func(s *api.State) { s.Boxes[0].Messages[1].Date = -1 },
	"date above MaxTime":          func(s *api.State) { s.Boxes[0].Messages[1].Date = api.MaxTime + 1 },
	"a body too long":             func(s *api.State) { s.Boxes[0].Messages[2].Body = strings.Repeat("x", 100001) },
	"more than MaxMessages":       func(s *api.State) { s.Boxes[3].Messages, s.Boxes[3].Next = messages(101, ""), 102 },
	"more than MaxBoxBytes": func(s *api.State) {
		s.Boxes[3].Messages, s.Boxes[3].Next = messages(100, strings.Repeat("x", 1955)), 101
		s.Boxes[3].Messages[50].Body += "x"
	},
	"above MaxBoxBytes as quoted": func(s *api.State) {
		s.Boxes[3].Messages, s.Boxes[3].Next = messages(100, "From "+strings.Repeat("x", 1950)), 101
	},
	"subscriptions' users swapped": func(s *api.State) { s.Subs[2], s.Subs[1] = s.Subs[1], s.Subs[2] },
	"subscriptions swapped":        func(s *api.State) { s.Subs[0], s.Subs[1] = s.Subs[1], s.Subs[0] },
	"a subscription twice":         func(s *api.State) { s.Subs[1] = s.Subs[0] },
	"too many subscriptions":       func(s *api.State) { s.Subs = subs(25) },
	"a subscription is no name":    func(s *api.State) { s.Subs[1].Name = "a*" },
	"a subscription is another":    func(s *api.State) { s.Subs[1].Name = "inbox" },
	"a subscription of nobody":     func(s *api.State) { s.Subs[2].User = 3 },
	"a subscription of no user":    func(s *api.State) { s.Subs[0].User = -1 },
	"Ids swapped":                  func(s *api.State) { s.Queue[0], s.Queue[1] = s.Queue[1], s.Queue[0] },
	"Id twice":                     func(s *api.State) { s.Queue[1].Id = 2 },
	"Id 0":                         func(s *api.State) { s.Queue[0].Id = 0 },
	"Id below 0":                   func(s *api.State) { s.Queue[0].Id = -1 },
	"Id NextItem":                  func(s *api.State) { s.NextItem = 6 },
	"more than MaxQueue":           func(s *api.State) { s.Queue, s.NextItem = items(25), 26 },
	"an item for nobody":           func(s *api.State) { s.Queue[0].For = nil },
	"an item for nobody, empty":    func(s *api.State) { s.Queue[0].For = []int{} },
	"users of an item swapped":     func(s *api.State) { s.Queue[0].For = []int{4, 0} },
	"a user of an item twice":      func(s *api.State) { s.Queue[2].For = []int{0, 0, 4} },
	"an item for no user":          func(s *api.State) { s.Queue[0].For = []int{0, 3} },
	"an item for a user below 0":   func(s *api.State) { s.Queue[0].For = []int{-1, 0} },
	"From too long":                func(s *api.State) { s.Queue[0].From = strings.Repeat("a", 201) },
	"Born below 0":                 func(s *api.State) { s.Queue[0].Born = -1 },
	"Born above MaxTime":           func(s *api.State) { s.Queue[0].Born = api.MaxTime + 1 },
	"Due below 0":                  func(s *api.State) { s.Queue[0].Due = -1 },
	"Due above MaxTime":            func(s *api.State) { s.Queue[0].Due = api.MaxTime + 1 },
	"Tries below 0":                func(s *api.State) { s.Queue[0].Tries = -1 },
	"Tries above MaxTries":         func(s *api.State) { s.Queue[0].Tries = 6 },
	"an item's body too long":      func(s *api.State) { s.Queue[2].Body = strings.Repeat("x", 100001) },
	"NextValid 0":                  func(s *api.State) { *s = api.State{NextItem: 1} },
	"NextValid above MaxUid":       func(s *api.State) { s.NextValid = api.MaxUid + 1 },
	"NextItem 0":                   func(s *api.State) { s.Queue, s.NextItem = nil, 0 },
	"NextItem above MaxUid":        func(s *api.State) { s.NextItem = api.MaxUid + 1 },
}

// P15.1: what is in form, and what isn't; Step refuses what isn't, whatever the act is.
func TestCheck(t *testing.T) {
	for name, make := range inForm {
		s := rich()
		make(&s)
		if err := post.Check(s); err != nil || !modelInForm(s) {
			t.Errorf("%s: Check answers %v", name, err)
		}
		checkStep(t, s, api.Act{Kind: api.ActSubscribe, User: 4, Name: "new"})
	}
	for name, make := range notInForm {
		s := rich()
		make(&s)
		if err := post.Check(s); !errors.Is(err, api.ErrForm) || modelInForm(s) {
			t.Errorf("%s: Check answers %v", name, err)
		}
		for kind := range 15 {
			refuse(t, s, api.Act{Kind: kind, N: 2, Name: "a", To: "b", For: []int{0}, Uids: []int{1}}, api.ErrForm)
		}
	}
}

// P15.1: the rich state with one or two of its numbers and texts being others.
func TestCheckOfMadeStates(t *testing.T) {
	texts := []string{"", "INBOX", "inbox", "INBOX/a", "a", "a/b", "a/c", "b", "z", "none", "a//b", "a*", "\xff", strings.Repeat("z", 60), strings.Repeat("z", 61), strings.Repeat("z", 200), strings.Repeat("z", 201)}
	d := dice(15)
	right := 0
	for range 40000 {
		s := rich()
		for range 1 + d.below(2) {
			places := numbersOf(&s)
			texted := textsOf(&s)
			if i := d.below(len(places) + len(texted)); i < len(places) {
				*places[i] = oneOf(&d, append(edges, *places[i]-1, *places[i]+1, d.below(22))...)
			} else {
				*texted[i-len(places)] = oneOf(&d, texts...)
			}
		}
		want := modelInForm(s)
		if err := post.Check(s); want != (err == nil) || err != nil && !errors.Is(err, api.ErrForm) {
			t.Fatalf("Check(%s) answers %v", told(s), err)
		}
		if want {
			right++
		}
	}
	if right < 4000 || right > 36000 {
		t.Errorf("%d of the made states were in form", right)
	}
}

// numbersOf are all numbers of a state.
func numbersOf(s *api.State) []*int {
	all := []*int{&s.NextValid, &s.NextItem}
	for i := range s.Boxes {
		b := &s.Boxes[i]
		all = append(all, &b.User, &b.Valid, &b.Next)
		for j := range b.Messages {
			all = append(all, &b.Messages[j].Uid, &b.Messages[j].Flags, &b.Messages[j].Date)
		}
	}
	for i := range s.Subs {
		all = append(all, &s.Subs[i].User)
	}
	for i := range s.Queue {
		item := &s.Queue[i]
		all = append(all, &item.Id, &item.Born, &item.Tries, &item.Due)
		for j := range item.For {
			all = append(all, &item.For[j])
		}
	}
	return all
}

// textsOf are all texts of a state.
func textsOf(s *api.State) []*string {
	var all []*string
	for i := range s.Boxes {
		all = append(all, &s.Boxes[i].Name)
		for j := range s.Boxes[i].Messages {
			all = append(all, &s.Boxes[i].Messages[j].Body)
		}
	}
	for i := range s.Subs {
		all = append(all, &s.Subs[i].Name)
	}
	for i := range s.Queue {
		all = append(all, &s.Queue[i].From, &s.Queue[i].Body)
	}
	return all
}

// P15.1: states are the same, if all fields are; a list that is empty is no list.
func TestSame(t *testing.T) {
	if !post.Same(rich(), rich()) || !post.Same(api.State{}, api.State{}) || post.Same(rich(), api.State{}) || post.Same(api.State{}, rich()) {
		t.Error("Same doesn't tell the rich state and the zero one")
	}
	empty := api.State{Boxes: []api.Box{}, Subs: []api.Sub{}, Queue: []api.Item{}}
	if !post.Same(api.State{}, empty) || !post.Same(empty, api.State{}) {
		t.Error("Same tells no lists from empty ones")
	}
	other := rich()
	other.Boxes[2].Messages = []api.Message{}
	if !post.Same(rich(), other) || !post.Same(other, rich()) {
		t.Error("Same tells no messages from an empty list of them")
	}
	other.Queue[0].For, other.Queue[1].For = nil, []int{}
	third := rich()
	third.Queue[0].For, third.Queue[1].For = []int{}, nil
	if !post.Same(other, third) {
		t.Error("Same tells no users from an empty list of them")
	}
	for i := range numbersOf(&other) {
		s := rich()
		if places := numbersOf(&s); i < len(places) {
			*places[i]++
			checkOther(t, s, fmt.Sprint("number ", i))
		}
	}
	for i := range textsOf(&other) {
		s := rich()
		*textsOf(&s)[i] += "x"
		checkOther(t, s, fmt.Sprint("text ", i))
	}
	for name, cut := range map[string]change{
		"boxes": func(s *api.State) { s.Boxes = s.Boxes[:5] }, "messages": func(s *api.State) { s.Boxes[0].Messages = s.Boxes[0].Messages[:2] },
		"subscriptions": func(s *api.State) { s.Subs = s.Subs[:2] }, "items": func(s *api.State) { s.Queue = s.Queue[:2] }, "users": func(s *api.State) { s.Queue[2].For = s.Queue[2].For[:2] },
		"the first box": func(s *api.State) { s.Boxes = s.Boxes[1:] }, "two items": func(s *api.State) { s.Queue[0], s.Queue[1] = s.Queue[1], s.Queue[0] },
	} {
		s := rich()
		cut(&s)
		checkOther(t, s, name)
	}
}

func checkOther(t *testing.T, s api.State, name string) {
	t.Helper()
	if post.Same(s, rich()) || post.Same(rich(), s) || !post.Same(s, s) {
		t.Errorf("Same takes %s as the same, or not as itself", name)
	}
}

// P15.1: places of boxes, by their very names; of states that aren't in form, too.
func TestFind(t *testing.T) {
	s := rich()
	for i, b := range s.Boxes {
		if got := post.Find(s, b.User, b.Name); got != i {
			t.Errorf("Find(%d, %q) answers %d", b.User, b.Name, got)
		}
	}
	for _, k := range []api.Sub{{User: 0, Name: "inbox"}, {User: 0, Name: ""}, {User: 0, Name: "b"}, {User: 0, Name: "a/"}, {User: 1, Name: "a"}, {User: 3, Name: "INBOX"}, {User: -1, Name: "INBOX"}, {User: 6, Name: "INBOX"}, {User: 4, Name: "a/b"}} {
		if got := post.Find(s, k.User, k.Name); got != -1 {
			t.Errorf("Find(%d, %q) answers %d", k.User, k.Name, got)
		}
	}
	for _, user := range edges {
		want := -1
		if i := slices.Index([]int{0, 1, 4}, user); i >= 0 {
			want = []int{0, 3, 4}[i]
		}
		if got := post.Find(s, user, "INBOX"); got != want {
			t.Errorf("Find(%d, INBOX) answers %d", user, got)
		}
	}
	if got := post.Find(api.State{}, 0, ""); got != -1 {
		t.Errorf("Find in the zero state answers %d", got)
	}
	wild := api.State{Boxes: []api.Box{{User: 9, Name: "b"}, {User: -9, Name: "a//"}, {User: 9, Name: "a"}, {User: 9, Name: "b", Valid: 3}}}
	if post.Find(wild, 9, "a") != 2 || post.Find(wild, -9, "a//") != 1 || post.Find(wild, 9, "b") != 0 {
		t.Error("Find doesn't find in a state that isn't in form")
	}
}

// P15.1: a box's bytes.
func TestBytes(t *testing.T) {
	for body, want := range map[string]int{"": 45, "x": 46, "x\n": 47, "From ": 51, "From a\n>From b": 61, ">from ": 51, "From": 49, "a\nFrom ": 53, " From ": 51, strings.Repeat("x", 300000): 300045} {
		if got := post.Bytes(api.Box{Messages: []api.Message{{Body: body}}}); got != want || got != modelSize(body) {
			t.Errorf("Bytes of %.40q answers %d", body, got)
		}
	}
	if got := post.Bytes(api.Box{}); got != 0 {
		t.Errorf("Bytes of no messages answers %d", got)
	}
	if got := post.Bytes(rich().Boxes[0]); got != 44+7+1+1+44+1+44+19+1 {
		t.Errorf("Bytes of three messages answers %d", got)
	}
	if got := post.Bytes(api.Box{Name: "a", Valid: 7, Next: 9, Messages: messages(1000, "x")}); got != 46000 {
		t.Errorf("Bytes of many messages answers %d", got)
	}
}
