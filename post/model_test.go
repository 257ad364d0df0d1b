package post_test

import (
	"cmp"
	"errors"
	"fmt"
	"math"
	"reflect"
	"regexp"
	"slices"
	"strings"
	"testing"

	"postbag/api"
	"postbag/post"
)

// The chapter said a second way: boxes, subscriptions and items are maps here, an act's refusals a list of questions.

var (
	inboxForm  = regexp.MustCompile(`\A[Ii][Nn][Bb][Oo][Xx]\z`)
	quotedForm = regexp.MustCompile(`(?m)^>*From `)
)

func modelName(s string) (string, bool) {
	if len(s) > 60 {
		return "", false
	}
	for _, part := range strings.Split(s, "/") {
		if part == "" {
			return "", false
		}
		for _, c := range []byte(part) {
			if c < 33 || c > 126 || strings.IndexByte(`(){%*"\`, c) >= 0 {
				return "", false
			}
		}
	}
	if inboxForm.MatchString(s) {
		return "INBOX", true
	}
	return s, true
}

func isModelName(s string) bool {
	_, is := modelName(s)
	return is
}

var sizes = map[string]int{}

// modelSize is what a message counts in a box: its entry in a file, whose first line has 44 bytes.
func modelSize(body string) int {
	n, known := sizes[body]
	if !known {
		n = 44 + len(body) + 1 + len(quotedForm.FindAllStringIndex(body, -1))
		sizes[body] = n
	}
	return n
}

func modelBytes(b api.Box) int {
	n := 0
	for _, m := range b.Messages {
		n += modelSize(m.Body)
	}
	return n
}

func modelHasUser(s api.State, user int) bool {
	for _, b := range s.Boxes {
		if b.User == user && b.Name == "INBOX" {
			return true
		}
	}
	return false
}

func in(n, least, most int) bool { return least <= n && n <= most }

func isModelBox(s api.State, b api.Box) bool {
	name, is := modelName(b.Name)
	if !in(b.User, 0, 5) || !is || name != b.Name || !in(b.Valid, 1, s.NextValid-1) || !in(b.Next, 1, 2147483648) {
		return false
	}
	if !modelHasUser(s, b.User) || len(b.Messages) > 100 || modelBytes(b) > 200000 {
		return false
	}
	ahead := 0
	for _, m := range b.Messages {
		if !in(m.Uid, ahead+1, b.Next-1) || !in(m.Flags, 0, 31) || !in(m.Date, 0, 4102444799) || len(m.Body) > 100000 {
			return false
		}
		ahead = m.Uid
	}
	return true
}

func isModelItem(s api.State, item api.Item) bool {
	if item.Id >= s.NextItem || len(item.For) == 0 || len(item.From) > 200 || len(item.Body) > 100000 {
		return false
	}
	for i, user := range item.For {
		if !modelHasUser(s, user) || i > 0 && user <= item.For[i-1] {
			return false
		}
	}
	return in(item.Born, 0, 4102444799) && in(item.Due, 0, 4102444799) && in(item.Tries, 0, 5)
}

func modelInForm(s api.State) bool {
	if !in(s.NextValid, 1, 2147483648) || !in(s.NextItem, 1, 2147483648) || len(s.Boxes) > 24 || len(s.Subs) > 24 || len(s.Queue) > 24 {
		return false
	}
	for i, b := range s.Boxes {
		if !isModelBox(s, b) {
			return false
		}
		for _, ahead := range s.Boxes[:i] {
			if ahead.Valid == b.Valid || ahead.User > b.User || ahead.User == b.User && ahead.Name >= b.Name {
				return false
			}
		}
	}
	for i, sub := range s.Subs {
		name, is := modelName(sub.Name)
		if !is || name != sub.Name || !modelHasUser(s, sub.User) {
			return false
		}
		for _, ahead := range s.Subs[:i] {
			if ahead.User > sub.User || ahead.User == sub.User && ahead.Name >= sub.Name {
				return false
			}
		}
	}
	ahead := 0
	for _, item := range s.Queue {
		if item.Id <= ahead || !isModelItem(s, item) {
			return false
		}
		ahead = item.Id
	}
	return true
}

// A mail is a state as maps.
type mail struct {
	boxes               map[api.Sub]api.Box
	subs                map[api.Sub]bool
	items               map[int]api.Item
	nextValid, nextItem int
}

func mailOf(s api.State) *mail {
	m := &mail{boxes: map[api.Sub]api.Box{}, subs: map[api.Sub]bool{}, items: map[int]api.Item{}, nextValid: s.NextValid, nextItem: s.NextItem}
	for _, b := range s.Boxes {
		b.Messages = slices.Clone(b.Messages)
		m.boxes[api.Sub{User: b.User, Name: b.Name}] = b
	}
	for _, sub := range s.Subs {
		m.subs[sub] = true
	}
	for _, item := range s.Queue {
		item.For = slices.Clone(item.For)
		m.items[item.Id] = item
	}
	return m
}

func compareSubs(a, b api.Sub) int {
	return cmp.Or(cmp.Compare(a.User, b.User), strings.Compare(a.Name, b.Name))
}

func (m *mail) state() api.State {
	s := api.State{NextValid: m.nextValid, NextItem: m.nextItem}
	for key, b := range m.boxes {
		b.User, b.Name = key.User, key.Name
		s.Boxes = append(s.Boxes, b)
	}
	slices.SortFunc(s.Boxes, func(a, b api.Box) int {
		return compareSubs(api.Sub{User: a.User, Name: a.Name}, api.Sub{User: b.User, Name: b.Name})
	})
	for sub := range m.subs {
		s.Subs = append(s.Subs, sub)
	}
	slices.SortFunc(s.Subs, compareSubs)
	for _, item := range m.items {
		s.Queue = append(s.Queue, item)
	}
	slices.SortFunc(s.Queue, func(a, b api.Item) int { return cmp.Compare(a.Id, b.Id) })
	return s
}

func (m *mail) hasUser(user int) bool {
	_, is := m.boxes[api.Sub{User: user, Name: "INBOX"}]
	return is
}

func (m *mail) hasBox(user int, name string) bool {
	name, _ = modelName(name)
	_, is := m.boxes[api.Sub{User: user, Name: name}]
	return is
}

// renames are the names that boxes get by a renaming, by the names that they have.
func (m *mail) renames(a api.Act) map[string]string {
	names := map[string]string{}
	for key := range m.boxes {
		if key.User == a.User && (key.Name == a.Name || strings.HasPrefix(key.Name, a.Name+"/")) {
			names[key.Name] = a.To + strings.TrimPrefix(key.Name, a.Name)
		}
	}
	return names
}

// A question is what may refuse an act, and with what.
type question struct {
	err error
	is  func() bool
}

func (m *mail) questions(a api.Act) []question {
	noUser := question{api.ErrUser, func() bool { return !m.hasUser(a.User) }}
	noName := question{api.ErrName, func() bool { return !isModelName(a.Name) }}
	noTo := question{api.ErrName, func() bool { return !isModelName(a.To) }}
	noBox := question{api.ErrNone, func() bool { return !m.hasBox(a.User, a.Name) }}
	noBoxTo := question{api.ErrNone, func() bool { return !m.hasBox(a.User, a.To) }}
	isInbox := question{api.ErrName, func() bool { return inboxForm.MatchString(a.Name) || inboxForm.MatchString(a.To) }}
	noItem := question{api.ErrNone, func() bool { return m.items[a.N].Id == 0 }}
	noDate := question{api.ErrRange, func() bool { return !in(a.Date, 0, 4102444799) }}
	noFlags := question{api.ErrRange, func() bool { return !in(a.Flags, 0, 31) }}
	tooLong := question{api.ErrLong, func() bool { return len(a.Body) > 100000 }}
	noNumber := question{api.ErrFull, func() bool { return m.nextItem == 2147483648 }}
	overflows := func(name string) question {
		return question{api.ErrFull, func() bool {
			name, _ := modelName(name)
			b := m.boxes[api.Sub{User: a.User, Name: name}]
			n := len(b.Messages)
			b.Messages = append(slices.Clone(b.Messages), m.incoming(a)...)
			return len(b.Messages) > 100 || modelBytes(b) > 200000 || b.Next+len(b.Messages)-n > 2147483648
		}}
	}
	switch a.Kind {
	case api.ActCreate:
		return []question{noUser, noName,
			{api.ErrExists, func() bool { return m.hasBox(a.User, a.Name) }},
			{api.ErrFull, func() bool { return len(m.boxes) == 24 || m.nextValid == 2147483648 }}}
	case api.ActDelete:
		return []question{noUser, noName, {api.ErrName, func() bool { return inboxForm.MatchString(a.Name) }}, noBox}
	case api.ActRename:
		return []question{noUser, noName, noTo, isInbox, noBox,
			{api.ErrLong, func() bool {
				for _, name := range m.renames(a) {
					if len(name) > 60 {
						return true
					}
				}
				return false
			}},
			{api.ErrExists, func() bool {
				names := m.renames(a)
				for _, name := range names {
					if gets, moves := names[name]; m.hasBox(a.User, name) && (!moves || gets == name) {
						return true
					}
				}
				return false
			}}}
	case api.ActSubscribe:
		return []question{noUser, noName, {api.ErrFull, func() bool {
			name, _ := modelName(a.Name)
			return len(m.subs) == 24 && !m.subs[api.Sub{User: a.User, Name: name}]
		}}}
	case api.ActUnsubscribe:
		return []question{noUser, noName, {api.ErrNone, func() bool {
			name, _ := modelName(a.Name)
			return !m.subs[api.Sub{User: a.User, Name: name}]
		}}}
	case api.ActAppend:
		return []question{noUser, noName, noBox, noFlags, noDate, tooLong, overflows(a.Name)}
	case api.ActCopy:
		return []question{noUser, noName, noTo, noBox, noBoxTo, overflows(a.To)}
	case api.ActFlags:
		return []question{noUser, noName, noBox, {api.ErrRange, func() bool { return !in(a.How, 0, 2) }}, noFlags}
	case api.ActExpunge:
		return []question{noUser, noName, noBox}
	case api.ActQueue:
		return []question{noDate,
			{api.ErrName, func() bool { return len(a.From) > 200 }},
			{api.ErrUser, func() bool {
				return len(a.For) == 0 || slices.ContainsFunc(a.For, func(user int) bool { return !m.hasUser(user) })
			}},
			tooLong, {api.ErrFull, func() bool { return len(m.items) == 24 }}, noNumber}
	case api.ActDeliver:
		return []question{noItem, {api.ErrNone, func() bool { return !slices.Contains(m.items[a.N].For, a.User) }}, noUser, noDate, overflows("INBOX")}
	case api.ActDefer:
		return []question{noItem, noDate, {api.ErrRange, func() bool { return m.items[a.N].Tries == 5 }}}
	case api.ActBounce:
		questions := []question{noItem, noDate, noUser, tooLong, noNumber}
		if a.User < 0 {
			questions = []question{noItem, noDate, tooLong}
		}
		return questions
	}
	return []question{{api.ErrForm, func() bool { return true }}}
}

// incoming are the messages that an act puts into a box, their numbers aside.
func (m *mail) incoming(a api.Act) []api.Message {
	switch a.Kind {
	case api.ActAppend:
		return []api.Message{{Flags: a.Flags, Date: a.Date, Body: a.Body}}
	case api.ActCopy:
		return m.named(a)
	case api.ActDeliver:
		return []api.Message{{Date: a.Date, Body: m.items[a.N].Body}}
	}
	return nil
}

// named are the messages whose numbers an act names.
func (m *mail) named(a api.Act) []api.Message {
	var list []api.Message
	name, _ := modelName(a.Name)
	for _, message := range m.boxes[api.Sub{User: a.User, Name: name}].Messages {
		if slices.Contains(a.Uids, message.Uid) {
			list = append(list, message)
		}
	}
	return list
}

func (m *mail) put(user int, name string, messages []api.Message) []int {
	key := api.Sub{User: user, Name: name}
	b := m.boxes[key]
	var uids []int
	for i, message := range messages {
		message.Uid = b.Next + i
		b.Messages = append(b.Messages, message)
		uids = append(uids, message.Uid)
	}
	b.Next += len(messages)
	m.boxes[key] = b
	return uids
}

func (m *mail) queue(from string, users []int, date int, body string) int {
	id := m.nextItem
	m.items[id] = api.Item{Id: id, From: from, For: users, Born: date, Due: date, Body: body}
	m.nextItem++
	return id
}

// do does an act that isn't refused.
func (m *mail) do(a api.Act) (answer post.Answer) {
	incoming := m.incoming(a)
	a.Name, _ = modelName(a.Name)
	a.To, _ = modelName(a.To)
	key := api.Sub{User: a.User, Name: a.Name}
	switch a.Kind {
	case api.ActCreate:
		m.boxes[key] = api.Box{Valid: m.nextValid, Next: 1}
		m.nextValid++
	case api.ActDelete:
		delete(m.boxes, key)
	case api.ActRename:
		moved := map[api.Sub]api.Box{}
		for from, to := range m.renames(a) {
			moved[api.Sub{User: a.User, Name: to}] = m.boxes[api.Sub{User: a.User, Name: from}]
			delete(m.boxes, api.Sub{User: a.User, Name: from})
		}
		for to, b := range moved {
			m.boxes[to] = b
		}
	case api.ActSubscribe:
		m.subs[key] = true
	case api.ActUnsubscribe:
		delete(m.subs, key)
	case api.ActAppend:
		answer.Uids = m.put(a.User, a.Name, incoming)
	case api.ActCopy:
		answer.Uids = m.put(a.User, a.To, incoming)
	case api.ActFlags, api.ActExpunge:
		answer.Uids = m.change(key, a)
	case api.ActQueue:
		var users []int
		for user := range 6 {
			if slices.Contains(a.For, user) {
				users = append(users, user)
			}
		}
		answer.N = m.queue(a.From, users, a.Date, a.Body)
	case api.ActDeliver:
		answer.Uids = m.put(a.User, "INBOX", incoming)
		item := m.items[a.N]
		item.For = slices.DeleteFunc(item.For, func(user int) bool { return user == a.User })
		m.items[a.N] = item
		if len(item.For) == 0 {
			delete(m.items, a.N)
		}
	case api.ActDefer:
		item := m.items[a.N]
		item.Tries, item.Due = item.Tries+1, a.Date
		m.items[a.N] = item
	case api.ActBounce:
		delete(m.items, a.N)
		if a.User >= 0 {
			answer.N = m.queue("", []int{a.User}, a.Date, a.Body)
		}
	}
	return answer
}

// change sets flags, or expunges.
func (m *mail) change(key api.Sub, a api.Act) []int {
	b := m.boxes[key]
	var uids []int
	var left []api.Message
	for _, message := range b.Messages {
		is := slices.Contains(a.Uids, message.Uid)
		if a.Kind == api.ActExpunge {
			is = message.Flags&8 == 8
		}
		if is {
			uids = append(uids, message.Uid)
		}
		if is && a.Kind == api.ActFlags {
			message.Flags = []int{a.Flags, message.Flags | a.Flags, message.Flags & (31 - a.Flags)}[a.How]
		}
		if !is || a.Kind == api.ActFlags {
			left = append(left, message)
		}
	}
	b.Messages = left
	m.boxes[key] = b
	return uids
}

func modelStep(s api.State, a api.Act) (api.State, post.Answer, error) {
	if !modelInForm(s) {
		return api.State{}, post.Answer{}, api.ErrForm
	}
	m := mailOf(s)
	for _, q := range m.questions(a) {
		if q.is() {
			return api.State{}, post.Answer{}, q.err
		}
	}
	answer := m.do(a)
	return m.state(), answer, nil
}

// plain is a state with no list where a list is empty.
func plain(s api.State) api.State {
	s.Boxes = slices.Clone(s.Boxes)
	for i, b := range s.Boxes {
		if len(b.Messages) == 0 {
			s.Boxes[i].Messages = nil
		}
	}
	s.Queue = slices.Clone(s.Queue)
	for i, item := range s.Queue {
		if len(item.For) == 0 {
			s.Queue[i].For = nil
		}
	}
	if len(s.Boxes) == 0 {
		s.Boxes = nil
	}
	if len(s.Subs) == 0 {
		s.Subs = nil
	}
	if len(s.Queue) == 0 {
		s.Queue = nil
	}
	return s
}

func isSame(a, b api.State) bool { return reflect.DeepEqual(plain(a), plain(b)) }

// told is a state or an act, with long texts cut.
func told(v any) string {
	s := fmt.Sprintf("%+v", v)
	if len(s) > 3000 {
		s = s[:1500] + " ... " + s[len(s)-1500:]
	}
	return s
}

// checkStep holds a step against the model, asks whether it kept or changed anything, and answers the state behind it: the same one, if it was refused.
func checkStep(t *testing.T, s api.State, a api.Act) (api.State, post.Answer, error) {
	t.Helper()
	want, wantAnswer, wantErr := modelStep(s, a)
	given := withRoom(s)
	givenAct := a
	givenAct.Uids, givenAct.For = roomy(a.Uids, -7), roomy(a.For, -7)
	before, uidsBefore, forBefore := whole(given), slices.Clone(full(givenAct.Uids)), slices.Clone(full(givenAct.For))
	got, answer, err := post.Step(given, givenAct)
	if !errors.Is(err, wantErr) || !isSame(got, want) || answer.N != wantAnswer.N || !slices.Equal(answer.Uids, wantAnswer.Uids) {
		t.Fatalf("behind %s, %s comes to %s, %v, %v, and not to %s, %v, %v", told(s), told(a), told(got), answer, err, told(want), wantAnswer, wantErr)
	}
	if !reflect.DeepEqual(whole(given), before) || !slices.Equal(full(givenAct.Uids), uidsBefore) || !slices.Equal(full(givenAct.For), forBefore) {
		t.Fatalf("behind %s, %s changes what is handed in", told(s), told(a))
	}
	if at := shared(append(stretches(got), stretchOf(answer.Uids)), append(stretches(given), stretchOf(givenAct.Uids), stretchOf(givenAct.For))); at {
		t.Fatalf("behind %s, %s answers a list that is another one, too", told(s), told(a))
	}
	if err != nil {
		return s, answer, err
	}
	if !modelInForm(got) || post.Check(got) != nil {
		t.Fatalf("behind %s, %s leaves %s, which isn't in form", told(s), told(a), told(got))
	}
	return got, answer, nil
}

// roomy is a list with room behind it, in which stand things that nobody may change.
func roomy[T any](list []T, behind T) []T {
	room := append(append(make([]T, 0, len(list)+3), list...), behind, behind, behind)
	return room[:len(list)]
}

func full[T any](list []T) []T { return list[:cap(list)] }

func withRoom(s api.State) api.State {
	s.Boxes = roomy(s.Boxes, api.Box{User: -7, Name: "behind", Messages: []api.Message{{Uid: -7}}})
	for i, b := range s.Boxes {
		s.Boxes[i].Messages = roomy(b.Messages, api.Message{Uid: -7})
	}
	s.Subs = roomy(s.Subs, api.Sub{User: -7})
	s.Queue = roomy(s.Queue, api.Item{Id: -7, For: []int{-7}})
	for i, item := range s.Queue {
		s.Queue[i].For = roomy(item.For, -7)
	}
	return s
}

// whole is a copy of a state and of the room behind its lists.
func whole(s api.State) api.State {
	s.Boxes, s.Subs, s.Queue = slices.Clone(full(s.Boxes)), slices.Clone(full(s.Subs)), slices.Clone(full(s.Queue))
	for i, b := range s.Boxes {
		s.Boxes[i].Messages = slices.Clone(full(b.Messages))
	}
	for i, item := range s.Queue {
		s.Queue[i].For = slices.Clone(full(item.For))
	}
	return s
}

// A stretch of memory.
type stretch struct{ from, to uintptr }

func stretchOf[T any](list []T) stretch {
	if cap(list) == 0 {
		return stretch{}
	}
	at := reflect.ValueOf(list).Pointer()
	return stretch{at, at + uintptr(cap(list))*reflect.TypeFor[T]().Size()}
}

func stretches(s api.State) []stretch {
	all := []stretch{stretchOf(s.Boxes), stretchOf(s.Subs), stretchOf(s.Queue)}
	for _, b := range s.Boxes {
		all = append(all, stretchOf(b.Messages))
	}
	for _, item := range s.Queue {
		all = append(all, stretchOf(item.For))
	}
	return all
}

// shared tells whether one of some stretches has memory of another one of them, or of others.
func shared(some, others []stretch) bool {
	for i, a := range some {
		for _, b := range slices.Concat(some[:i], others) {
			if a.from < b.to && b.from < a.to {
				return true
			}
		}
	}
	return false
}

// Numbers at and beside all limits that the chapter and the kind of number have.
var edges = []int{
	math.MinInt, -api.MaxUid, -2, -1, 0, 1, 2, 3, 4, 5, 6, 7, 13, 14, 23, 24, 25, 30, 31, 32, 99, 100, 101,
	api.MaxTime - 1, api.MaxTime, api.MaxTime + 1, api.MaxUid - 2, api.MaxUid - 1, api.MaxUid, api.MaxUid + 1, math.MaxInt - 1, math.MaxInt,
}

type dice uint64

func (d *dice) below(n int) int {
	*d = *d*6364136223846793005 + 1442695040888963407
	return int(*d>>33) % n
}

func oneOf[T any](d *dice, list ...T) T { return list[d.below(len(list))] }

// mustStep does an act that isn't refused.
func mustStep(t *testing.T, s api.State, a api.Act) (api.State, post.Answer) {
	t.Helper()
	s, answer, err := checkStep(t, s, a)
	if err != nil {
		t.Fatalf("%s answers %v", told(a), err)
	}
	return s, answer
}

// refuse does an act that is refused.
func refuse(t *testing.T, s api.State, a api.Act, want error) {
	t.Helper()
	if _, _, err := checkStep(t, s, a); !errors.Is(err, want) {
		t.Fatalf("%s answers %v, and not %v", told(a), err, want)
	}
}

func mustNew(t *testing.T, users int) api.State {
	t.Helper()
	s, err := post.New(users)
	if err != nil {
		t.Fatal(err)
	}
	return s
}

// boxOf is a user's box.
func boxOf(t *testing.T, s api.State, user int, name string) api.Box {
	t.Helper()
	i := post.Find(s, user, name)
	if i < 0 || i >= len(s.Boxes) {
		t.Fatalf("%d has no box %q in %s", user, name, told(s))
	}
	return s.Boxes[i]
}
