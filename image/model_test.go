package image_test

import (
	"errors"
	"fmt"
	"maps"
	"math"
	"reflect"
	"regexp"
	"slices"
	"strconv"
	"strings"
	"testing"
	"time"

	"postbag/api"
	"postbag/image"
	"postbag/post"
)

// The chapter said a second way: files are maps here, an index is read by expressions, and each of its numbers is asked.

const clockForm = "Mon Jan _2 15:04:05 2006"

var (
	lineBegin  = regexp.MustCompile(`(?m)^(>*From )`)
	quotedLine = regexp.MustCompile(`(?m)^>(>*From )`)
	separator  = regexp.MustCompile(`(?m)^From `)
	fromForm   = regexp.MustCompile(`\A[!-~]*\z`)
	entryForm  = regexp.MustCompile(`(?s)\AFrom MAILER-DAEMON ([^\n]{24})\n(.*)\n\z`)
	indexForm  = regexp.MustCompile(strings.ReplaceAll(`\Astate N N\n(?:box N N N \S+\n(?:message N N N N\n)*)*(?:sub N \S+\n)*(?:item N N N N N(?: N)+ \S*\n)*\z`, "N", `(?:0|[1-9][0-9]{0,17})`))
)

type fileMap map[string]string

func modelHas(s api.State) bool {
	for _, item := range s.Queue {
		if !fromForm.MatchString(item.From) {
			return false
		}
	}
	return post.Check(s) == nil
}

func modelEntry(m api.Message) string {
	return "From MAILER-DAEMON " + time.Unix(int64(m.Date), 0).UTC().Format(clockForm) + "\n" + lineBegin.ReplaceAllString(m.Body, ">$1") + "\n"
}

func modelIndex(s api.State) string {
	index := fmt.Sprintf("state %d %d\n", s.NextValid, s.NextItem)
	for _, b := range s.Boxes {
		index += fmt.Sprintf("box %d %d %d %s\n", b.User, b.Valid, b.Next, b.Name)
		size := 0
		for _, m := range b.Messages {
			end := size + len(modelEntry(m))
			index += fmt.Sprintf("message %d %d %d %d\n", m.Uid, m.Flags, size, end)
			size = end
		}
	}
	for _, sub := range s.Subs {
		index += fmt.Sprintf("sub %d %s\n", sub.User, sub.Name)
	}
	for _, item := range s.Queue {
		users := strings.Trim(fmt.Sprint(item.For), "[]")
		index += fmt.Sprintf("item %d %d %d %d %d %s %s\n", item.Id, item.Born, item.Tries, item.Due, len(item.For), users, item.From)
	}
	return index
}

// modelFiles are the files of a state that has some.
func modelFiles(s api.State) fileMap {
	files := fileMap{"index": modelIndex(s)}
	for _, b := range s.Boxes {
		for _, m := range b.Messages {
			files[fmt.Sprint("m", b.Valid)] += modelEntry(m)
		}
	}
	for _, item := range s.Queue {
		files[fmt.Sprint("q", item.Id)] = item.Body
	}
	return files
}

func (f fileMap) list() []api.File {
	var list []api.File
	for _, name := range slices.Sorted(maps.Keys(f)) {
		list = append(list, api.File{Name: name, Bytes: []byte(f[name])})
	}
	return list
}

func mapOf(files []api.File) fileMap {
	m := fileMap{}
	for _, f := range files {
		m[f.Name] = string(f.Bytes)
	}
	return m
}

// modelLoad is the state of files, and whether they are one's: asked piece by piece, and never by writing the state's files.
func modelLoad(files []api.File) (api.State, bool) {
	left := mapOf(files)
	index, is := left["index"]
	if len(left) != len(files) || !is || !indexForm.MatchString(index) {
		return api.State{}, false
	}
	delete(left, "index")
	var s api.State
	size := 0
	right := true
	endBox := func() {
		if len(s.Boxes) == 0 {
			return
		}
		b := s.Boxes[len(s.Boxes)-1]
		name := fmt.Sprint("m", b.Valid)
		file, is := left[name]
		right = right && is == (len(b.Messages) > 0) && len(file) == size
		delete(left, name)
		size = 0
	}
	inBoxes := true
	for _, line := range strings.Split(strings.TrimSuffix(index, "\n"), "\n") {
		words := strings.Split(line, " ")
		var n []int
		for _, word := range words[1:] {
			number, _ := strconv.Atoi(word)
			n = append(n, number)
		}
		if inBoxes && (words[0] == "box" || words[0] == "sub" || words[0] == "item") {
			endBox()
			inBoxes = words[0] == "box"
		}
		switch words[0] {
		case "state":
			s.NextValid, s.NextItem = n[0], n[1]
		case "box":
			s.Boxes = append(s.Boxes, api.Box{User: n[0], Valid: n[1], Next: n[2], Name: words[4]})
		case "message":
			b := &s.Boxes[len(s.Boxes)-1]
			file := left[fmt.Sprint("m", b.Valid)]
			if n[2] != size || n[3] < size || n[3] > len(file) {
				return api.State{}, false
			}
			m, is := modelMessage(file[n[2]:n[3]])
			m.Uid, m.Flags, size = n[0], n[1], n[3]
			b.Messages = append(b.Messages, m)
			right = right && is
		case "sub":
			s.Subs = append(s.Subs, api.Sub{User: n[0], Name: words[2]})
		case "item":
			if n[4] > len(n)-6 || n[4]+7 != len(words) {
				return api.State{}, false
			}
			name := fmt.Sprint("q", n[0])
			body, is := left[name]
			s.Queue = append(s.Queue, api.Item{Id: n[0], Born: n[1], Tries: n[2], Due: n[3], For: slices.Clone(n[5 : 5+n[4]]), From: words[len(words)-1], Body: body})
			delete(left, name)
			right = right && is
		}
	}
	if inBoxes {
		endBox()
	}
	if !right || len(left) > 0 || !modelHas(s) {
		return api.State{}, false
	}
	return s, true
}

// modelMessage is the message of an entry.
func modelMessage(entry string) (api.Message, bool) {
	found := entryForm.FindStringSubmatch(entry)
	if found == nil || separator.MatchString(found[2]) {
		return api.Message{}, false
	}
	when, err := time.Parse(clockForm, found[1])
	if err != nil || when.Format(clockForm) != found[1] {
		return api.Message{}, false
	}
	return api.Message{Date: int(when.Unix()), Body: quotedLine.ReplaceAllString(found[2], "$1")}, true
}

// modelOps is what the chapter says of the names of both states' files.
func modelOps(from, to fileMap) []api.Op {
	both := maps.Clone(from)
	maps.Copy(both, to)
	var ops []api.Op
	for _, name := range slices.Sorted(maps.Keys(both)) {
		was, wasThere := from[name]
		is, isThere := to[name]
		if wasThere == isThere && was == is {
			continue
		}
		op := api.Op{Kind: api.OpReplace, Name: name, Bytes: []byte(is)}
		if !isThere {
			op = api.Op{Kind: api.OpRemove, Name: name}
		} else if wasThere && strings.HasPrefix(is, was) {
			op = api.Op{Kind: api.OpAppend, Name: name, At: len(was), Bytes: []byte(strings.TrimPrefix(is, was))}
		} else if !wasThere && name[0] == 'm' {
			op = api.Op{Kind: api.OpAppend, Name: name, Bytes: []byte(is)}
		}
		ops = append(ops, op)
	}
	return ops
}

// done are files with operations done, as layer 6 tells them; false, if one isn't in form.
func (f fileMap) done(ops []api.Op) (fileMap, bool) {
	f = maps.Clone(f)
	for _, op := range ops {
		was, isThere := f[op.Name]
		switch {
		case op.Kind == api.OpAppend && op.At == len(was):
			f[op.Name] = was + string(op.Bytes)
		case op.Kind == api.OpReplace && op.At == 0:
			f[op.Name] = string(op.Bytes)
		case op.Kind == api.OpRemove && isThere && op.At == 0 && len(op.Bytes) == 0:
			delete(f, op.Name)
		default:
			return nil, false
		}
	}
	return f, true
}

func isSameOp(a, b api.Op) bool {
	return a.Kind == b.Kind && a.Name == b.Name && a.At == b.At && string(a.Bytes) == string(b.Bytes)
}

func isSameFile(a, b api.File) bool { return a.Name == b.Name && string(a.Bytes) == string(b.Bytes) }

// told is anything, with long texts cut.
func told(v any) string {
	s := fmt.Sprintf("%+v", v)
	switch list := v.(type) {
	case []api.File:
		s = ""
		for _, f := range list {
			s += fmt.Sprintf("%q: %q ", f.Name, f.Bytes)
		}
	case []api.Op:
		s = ""
		for _, op := range list {
			s += fmt.Sprintf("%d %q at %d: %q ", op.Kind, op.Name, op.At, op.Bytes)
		}
	}
	if len(s) > 3000 {
		s = s[:1500] + " ... " + s[len(s)-1500:]
	}
	return strings.ToValidUTF8(s, "?")
}

// checkState holds all calls of one state against the model, and asks for the state back; it tells whether the state has files.
func checkState(t *testing.T, s api.State) bool {
	t.Helper()
	has := modelHas(s)
	given := withRoom(s)
	before := whole(given)
	if got := image.Has(given); got != has {
		t.Fatalf("Has(%s) answers %v", told(s), got)
	}
	files, err := image.Files(given)
	index, indexErr := image.Index(given)
	if !reflect.DeepEqual(whole(given), before) {
		t.Fatalf("a call changes the state that it is handed: %s", told(s))
	}
	if !has {
		if !errors.Is(err, api.ErrForm) || !errors.Is(indexErr, api.ErrForm) || len(files) > 0 || index != "" {
			t.Fatalf("of %s, which has none, Files answers %s, %v, and Index %q, %v", told(s), told(files), err, index, indexErr)
		}
		return false
	}
	want := modelFiles(s)
	if err != nil || !slices.EqualFunc(files, want.list(), isSameFile) {
		t.Fatalf("Files(%s) answers %s, %v, and not %s", told(s), told(files), err, told(want.list()))
	}
	if indexErr != nil || index != want["index"] {
		t.Fatalf("Index(%s) answers %q, %v", told(s), index, indexErr)
	}
	if shared(fileStretches(files), nil) {
		t.Fatalf("two files of %s share their bytes", told(s))
	}
	back := checkLoad(t, files)
	if !post.Same(back, s) {
		t.Fatalf("Load of Files(%s) answers %s", told(s), told(back))
	}
	return true
}

// checkLoad holds a Load against the model, and answers the state.
func checkLoad(t *testing.T, files []api.File) api.State {
	t.Helper()
	want, is := modelLoad(files)
	given := roomyFiles(files)
	before := wholeFiles(given)
	s, err := image.Load(given)
	if is != (err == nil) || !is && !errors.Is(err, api.ErrForm) {
		t.Fatalf("Load(%s) answers %v", told(files), err)
	}
	if !post.Same(s, want) || !is && !reflect.DeepEqual(s, api.State{}) {
		t.Fatalf("Load(%s) answers %s, and not %s", told(files), told(s), told(want))
	}
	if !reflect.DeepEqual(wholeFiles(given), before) {
		t.Fatalf("Load(%s) changes what it is handed", told(files))
	}
	if shared(stretches(s), nil) {
		t.Fatalf("Load(%s) answers a list that is another one, too", told(files))
	}
	return s
}

// checkOps holds an Ops against the model, and does what it answers.
func checkOps(t *testing.T, from, to api.State) []api.Op {
	t.Helper()
	givenFrom, givenTo := withRoom(from), withRoom(to)
	beforeFrom, beforeTo := whole(givenFrom), whole(givenTo)
	ops, err := image.Ops(givenFrom, givenTo)
	if !reflect.DeepEqual(whole(givenFrom), beforeFrom) || !reflect.DeepEqual(whole(givenTo), beforeTo) {
		t.Fatalf("Ops(%s, %s) changes a state that it is handed", told(from), told(to))
	}
	if !modelHas(from) || !modelHas(to) {
		if !errors.Is(err, api.ErrForm) || len(ops) > 0 {
			t.Fatalf("Ops(%s, %s) answers %s, %v", told(from), told(to), told(ops), err)
		}
		return nil
	}
	was, is := modelFiles(from), modelFiles(to)
	if want := modelOps(was, is); err != nil || !slices.EqualFunc(ops, want, isSameOp) {
		t.Fatalf("Ops(%s, %s) answers %s, %v, and not %s", told(from), told(to), told(ops), err, told(want))
	}
	if got, right := was.done(ops); !right || !maps.Equal(got, is) {
		t.Fatalf("Ops(%s, %s) comes to %v", told(from), told(to), got)
	}
	var all []stretch
	for _, op := range ops {
		all = append(all, stretchOf(op.Bytes))
	}
	if shared(all, nil) {
		t.Fatalf("two of Ops(%s, %s) share their bytes", told(from), told(to))
	}
	return ops
}

// roomy is a list with room behind it, in which stand things that nobody may change.
func roomy[T any](list []T, behind T) []T {
	room := append(append(make([]T, 0, len(list)+2), list...), behind, behind)
	return room[:len(list)]
}

func full[T any](list []T) []T { return list[:cap(list)] }

func withRoom(s api.State) api.State {
	s.Boxes = roomy(s.Boxes, api.Box{User: -7, Name: "behind", Messages: []api.Message{{Uid: -7}}})
	for i, b := range s.Boxes {
		s.Boxes[i].Messages = roomy(b.Messages, api.Message{Uid: -7})
	}
	s.Subs = roomy(s.Subs, api.Sub{User: -7})
	s.Queue = roomy(s.Queue, api.Item{Id: -7, For: []int{-7}})
	for i, item := range s.Queue {
		s.Queue[i].For = roomy(item.For, -7)
	}
	return s
}

// whole is a copy of a state and of the room behind its lists.
func whole(s api.State) api.State {
	s.Boxes, s.Subs, s.Queue = slices.Clone(full(s.Boxes)), slices.Clone(full(s.Subs)), slices.Clone(full(s.Queue))
	for i, b := range s.Boxes {
		s.Boxes[i].Messages = slices.Clone(full(b.Messages))
	}
	for i, item := range s.Queue {
		s.Queue[i].For = slices.Clone(full(item.For))
	}
	return s
}

func roomyFiles(files []api.File) []api.File {
	files = roomy(files, api.File{Name: "behind"})
	for i, f := range files {
		files[i].Bytes = roomy(f.Bytes, '\n')
	}
	return files
}

func wholeFiles(files []api.File) []api.File {
	files = slices.Clone(full(files))
	for i, f := range files {
		files[i].Bytes = slices.Clone(full(f.Bytes))
	}
	return files
}

// A stretch of memory.
type stretch struct{ from, to uintptr }

func stretchOf[T any](list []T) stretch {
	if cap(list) == 0 {
		return stretch{}
	}
	at := reflect.ValueOf(list).Pointer()
	return stretch{at, at + uintptr(cap(list))*reflect.TypeFor[T]().Size()}
}

func stretches(s api.State) []stretch {
	all := []stretch{stretchOf(s.Boxes), stretchOf(s.Subs), stretchOf(s.Queue)}
	for _, b := range s.Boxes {
		all = append(all, stretchOf(b.Messages))
	}
	for _, item := range s.Queue {
		all = append(all, stretchOf(item.For))
	}
	return all
}

func fileStretches(files []api.File) []stretch {
	all := []stretch{stretchOf(files)}
	for _, f := range files {
		all = append(all, stretchOf(f.Bytes))
	}
	return all
}

// shared tells whether one of some stretches has memory of another one of them, or of others.
func shared(some, others []stretch) bool {
	for i, a := range some {
		for _, b := range slices.Concat(some[:i], others) {
			if a.from < b.to && b.from < a.to {
				return true
			}
		}
	}
	return false
}

// Numbers at and beside the limits.
var edges = []int{
	math.MinInt, -api.MaxUid, -2, -1, 0, 1, 2, 3, 4, 5, 6, 7, 9, 10, 19, 20, 31, 32,
	api.MaxTime, api.MaxTime + 1, api.MaxUid - 1, api.MaxUid, api.MaxUid + 1, math.MaxInt,
}

type dice uint64

func (d *dice) below(n int) int {
	*d = *d*6364136223846793005 + 1442695040888963407
	return int(*d>>33) % n
}

func oneOf[T any](d *dice, list ...T) T { return list[d.below(len(list))] }

// numbersOf are all numbers of a state.
func numbersOf(s *api.State) []*int {
	all := []*int{&s.NextValid, &s.NextItem}
	for i := range s.Boxes {
		b := &s.Boxes[i]
		all = append(all, &b.User, &b.Valid, &b.Next)
		for j := range b.Messages {
			all = append(all, &b.Messages[j].Uid, &b.Messages[j].Flags, &b.Messages[j].Date)
		}
	}
	for i := range s.Subs {
		all = append(all, &s.Subs[i].User)
	}
	for i := range s.Queue {
		item := &s.Queue[i]
		all = append(all, &item.Id, &item.Born, &item.Tries, &item.Due)
		for j := range item.For {
			all = append(all, &item.For[j])
		}
	}
	return all
}

// textsOf are all texts of a state.
func textsOf(s *api.State) []*string {
	var all []*string
	for i := range s.Boxes {
		all = append(all, &s.Boxes[i].Name)
		for j := range s.Boxes[i].Messages {
			all = append(all, &s.Boxes[i].Messages[j].Body)
		}
	}
	for i := range s.Subs {
		all = append(all, &s.Subs[i].Name)
	}
	for i := range s.Queue {
		all = append(all, &s.Queue[i].From, &s.Queue[i].Body)
	}
	return all
}

// rich is a state that has something of everything.
func rich() api.State {
	return api.State{
		Boxes: []api.Box{
			{User: 0, Name: "INBOX", Valid: 3, Next: 9, Messages: []api.Message{
				{Uid: 2, Flags: api.Seen | api.Deleted, Date: 5, Body: "From a\n>From b\n"},
				{Uid: 3, Flags: 0, Date: 0, Body: ""},
				{Uid: 7, Flags: api.AllFlags, Date: api.MaxTime, Body: "Subject: x\r\n\r\nhello"},
			}},
			{User: 0, Name: "a", Valid: 1, Next: 2, Messages: []api.Message{{Uid: 1, Flags: api.Draft, Date: 951782400, Body: "x"}}},
			{User: 0, Name: "a/b", Valid: 2, Next: 1},
			{User: 1, Name: "INBOX", Valid: 10, Next: 1},
			{User: 4, Name: "INBOX", Valid: 4, Next: 4, Messages: []api.Message{{Uid: 3, Flags: api.Deleted, Body: "\n"}}},
			{User: 4, Name: "z", Valid: 19, Next: 5},
		},
		Subs: []api.Sub{{User: 0, Name: "INBOX"}, {User: 0, Name: "none"}, {User: 4, Name: "a/b"}},
		Queue: []api.Item{
			{Id: 2, From: "a@b", For: []int{0, 4}, Born: 3, Tries: 1, Due: 63, Body: "one"},
			{Id: 5, From: "", For: []int{1}, Born: api.MaxTime, Tries: 5, Due: 0, Body: ""},
			{Id: 10, From: "5", For: []int{0, 1, 4}, Born: 9, Tries: 0, Due: 9, Body: "From two\n"},
		},
		NextValid: 20,
		NextItem:  12,
	}
}

// greatest is a state with as many of everything as there may be, and each as long as it may be.
func greatest() api.State {
	s := api.State{NextValid: api.MaxUid, NextItem: api.MaxUid}
	for i := range api.MaxBoxes {
		name := fmt.Sprintf("X%02d%s", i, strings.Repeat("x", 57))
		b := api.Box{User: i / 4, Name: name, Valid: api.MaxUid - 1 - i, Next: api.MaxUid}
		if i%4 == 0 {
			b.Name = "INBOX"
		}
		for j := range api.MaxMessages {
			b.Messages = append(b.Messages, api.Message{Uid: api.MaxUid - 100 + j, Flags: 31, Date: api.MaxTime, Body: strings.Repeat("y", 1955)})
		}
		s.Boxes = append(s.Boxes, b)
		s.Subs = append(s.Subs, api.Sub{User: i / 4, Name: name})
		s.Queue = append(s.Queue, api.Item{Id: api.MaxUid - 24 + i, From: strings.Repeat("~", 200), For: []int{0, 1, 2, 3, 4, 5}, Born: api.MaxTime, Tries: 5, Due: api.MaxTime, Body: strings.Repeat("From \n", 16666) + "From"})
	}
	return s
}

// made is a state in form, made by the dice; few tells whether it is one of those that are much alike.
func made(d *dice, few bool) api.State {
	s := api.State{NextValid: 1, NextItem: 1 + d.below(3)}
	bodies := []string{"", "x", "\n", "x\n", "xy", "From ", "From a\n>From b", ">From", "a\r\nFrom \n", "\x00\xff", "From MAILER-DAEMON Thu Jan  1 00:00:00 1970\n\n"}
	names := []string{"INBOX", "A", "INBOX/a", "a", "a/b", "box", "item", "message/1", "sub", "z!~"}
	if few {
		bodies, names = bodies[:5], []string{"INBOX", "a"}
	}
	var users []int
	for user := range 6 {
		if d.below(3) > 0 {
			users = append(users, user)
		}
	}
	slices.Sort(names)
	for _, user := range users {
		for _, name := range names {
			if name == "INBOX" || len(s.Boxes) < 18 && d.below(4) == 0 {
				s.Boxes = append(s.Boxes, madeBox(d, user, name, &s.NextValid, bodies))
			}
			if d.below(9) == 0 && len(s.Subs) < 24 {
				s.Subs = append(s.Subs, api.Sub{User: user, Name: name})
			}
		}
	}
	for len(users) > 0 && d.below(4) > 0 && len(s.Queue) < 24 {
		s.Queue = append(s.Queue, madeItem(d, users, &s.NextItem, bodies))
	}
	return s
}

func madeBox(d *dice, user int, name string, nextValid *int, bodies []string) api.Box {
	*nextValid += d.below(3)
	b := api.Box{User: user, Name: name, Valid: *nextValid, Next: 1 + d.below(2)}
	*nextValid++
	for d.below(3) > 0 {
		b.Messages = append(b.Messages, api.Message{Uid: b.Next, Flags: d.below(32), Date: oneOf(d, 0, 1, d.below(api.MaxTime), api.MaxTime), Body: oneOf(d, bodies...)})
		b.Next += 1 + d.below(2)
	}
	return b
}

func madeItem(d *dice, users []int, nextItem *int, bodies []string) api.Item {
	item := api.Item{Id: *nextItem, From: oneOf(d, "", "a@b", "1", "!", "\"a\\", strings.Repeat("~", 200)), Born: d.below(api.MaxTime), Tries: d.below(6), Due: d.below(api.MaxTime), Body: oneOf(d, bodies...)}
	*nextItem += 1 + d.below(3)
	for _, user := range users {
		if d.below(2) == 0 {
			item.For = append(item.For, user)
		}
	}
	if len(item.For) == 0 {
		item.For = []int{oneOf(d, users...)}
	}
	return item
}
