package image_test

import (
	"errors"
	"fmt"
	"slices"
	"strings"
	"testing"

	"postbag/api"
	"postbag/image"
	"postbag/post"
)

const (
	begin = "From MAILER-DAEMON Thu Jan  1 00:00:0"

	richIndex = "state 20 12\n" +
		"box 0 3 9 INBOX\nmessage 2 9 0 62\nmessage 3 0 62 107\nmessage 7 31 107 171\n" +
		"box 0 1 2 a\nmessage 1 16 0 46\n" +
		"box 0 2 1 a/b\n" +
		"box 1 10 1 INBOX\n" +
		"box 4 4 4 INBOX\nmessage 3 8 0 46\n" +
		"box 4 19 5 z\n" +
		"sub 0 INBOX\nsub 0 none\nsub 4 a/b\n" +
		"item 2 3 1 63 2 0 4 a@b\nitem 5 4102444799 5 0 1 1 \nitem 10 9 0 9 3 0 1 4 5\n"
)

var richFiles = []struct{ name, text string }{
	{"index", richIndex},
	{"m1", "From MAILER-DAEMON Tue Feb 29 00:00:00 2000\nx\n"},
	{"m3", begin + "5 1970\n>From a\n>>From b\n\n" + begin + "0 1970\n\nFrom MAILER-DAEMON Thu Dec 31 23:59:59 2099\nSubject: x\r\n\r\nhello\n"},
	{"m4", begin + "0 1970\n\n\n"},
	{"q10", "From two\n"},
	{"q2", "one"},
	{"q5", ""},
}

// P16.1: the chapter's example, and each way that a state's files look.
func TestFiles(t *testing.T) {
	s, err := post.New(1)
	if err != nil {
		t.Fatal(err)
	}
	files, err := image.Files(s)
	if err != nil || len(files) != 1 || files[0].Name != "index" || string(files[0].Bytes) != "state 2 1\nbox 0 1 1 INBOX\n" {
		t.Errorf("Files of a new state answers %s, %v", told(files), err)
	}
	files, err = image.Files(rich())
	if err != nil || len(files) != len(richFiles) {
		t.Fatalf("Files of the rich state answers %s, %v", told(files), err)
	}
	for i, want := range richFiles {
		if files[i].Name != want.name || string(files[i].Bytes) != want.text {
			t.Errorf("Files answers %q: %q, and not %q: %q", files[i].Name, files[i].Bytes, want.name, want.text)
		}
	}
	if index, err := image.Index(rich()); err != nil || index != richIndex {
		t.Errorf("Index of the rich state answers %q, %v", index, err)
	}
	if s, err := image.Load(files); err != nil || !post.Same(s, rich()) {
		t.Errorf("Load answers %s, %v", told(s), err)
	}
}

// P16.1, P16.2: new states, nobody's, the greatest one, and made ones.
func TestStatesThatHave(t *testing.T) {
	states := []api.State{rich(), {NextValid: 1, NextItem: 1}, {NextValid: api.MaxUid, NextItem: api.MaxUid, Boxes: []api.Box{}, Subs: []api.Sub{}, Queue: []api.Item{}}, greatest()}
	for users := 1; users <= api.MaxUsers; users++ {
		s, _ := post.New(users)
		states = append(states, s)
	}
	for seed := range 3000 {
		d := dice(seed)
		states = append(states, made(&d, seed%2 == 0))
	}
	for _, s := range states {
		if !checkState(t, s) {
			t.Fatalf("%s has no files", told(s))
		}
	}
}

// P16.1: a box's bytes at the limit are all bytes that its file has, and the index of the greatest state is no longer than a file may be.
func TestGreatest(t *testing.T) {
	files, err := image.Files(greatest())
	if err != nil || len(files) != 49 {
		t.Fatalf("Files of the greatest state answers %d files, %v", len(files), err)
	}
	for _, f := range files {
		want := map[byte]int{'i': len(f.Bytes), 'm': api.MaxBoxBytes, 'q': api.MaxMessage}[f.Name[0]]
		if len(f.Bytes) != want || len(f.Bytes) > api.MaxBoxBytes {
			t.Errorf("the file %q has %d bytes", f.Name, len(f.Bytes))
		}
	}
	over := greatest()
	over.Boxes[3].Messages[99].Body += "y"
	if checkState(t, over) {
		t.Error("a box with too many bytes has a file")
	}
}

// P16.1: From may have all bytes from 33 to 126, wherever they stand, and no others.
func TestFrom(t *testing.T) {
	for b := range 256 {
		one := string([]byte{byte(b)})
		for _, from := range []string{one, one + "a", "a" + one, "a" + one + "b", strings.Repeat("a", 199) + one} {
			s := rich()
			s.Queue[0].From = "a"
			s.Queue[2].From = from
			if got := checkState(t, s); got != (b >= 33 && b <= 126) {
				t.Errorf("with From %q Has answers %v", from, got)
			}
			if err := post.Check(s); err != nil {
				t.Errorf("with From %q the state isn't in form", from)
			}
		}
	}
	for from, want := range map[string]bool{"": true, strings.Repeat("~", 200): true, strings.Repeat("~", 201): false, "é": false, " ": false, "a b": false, "a\n": false, "5 6": false} {
		for i := range 3 {
			s := rich()
			s.Queue[i].From = from
			if got := checkState(t, s); got != want {
				t.Errorf("with From %q Has answers %v", from, got)
			}
		}
	}
}

// P16.1: a state that isn't in form has no files.
func TestStatesThatHaveNot(t *testing.T) {
	for name, change := range map[string]func(s *api.State){
		"the zero state":          func(s *api.State) { *s = api.State{} },
		"NextItem 0":              func(s *api.State) { s.Queue, s.NextItem = nil, 0 },
		"NextItem above MaxUid":   func(s *api.State) { s.NextItem = api.MaxUid + 1 },
		"NextValid too small":     func(s *api.State) { s.NextValid = 19 },
		"boxes swapped":           func(s *api.State) { s.Boxes[1], s.Boxes[2] = s.Boxes[2], s.Boxes[1] },
		"a box twice":             func(s *api.State) { s.Boxes[2].Name = "a" },
		"Valid twice":             func(s *api.State) { s.Boxes[1].Valid = 3 },
		"Valid 0":                 func(s *api.State) { s.Boxes[1].Valid = 0 },
		"no INBOX":                func(s *api.State) { s.Boxes = s.Boxes[1:] },
		"a name with a blank":     func(s *api.State) { s.Boxes[1].Name = "a b" },
		"a name with a line end":  func(s *api.State) { s.Boxes[5].Name = "z\nsub" },
		"no name":                 func(s *api.State) { s.Boxes[3].Name = "" },
		"a date above MaxTime":    func(s *api.State) { s.Boxes[0].Messages[1].Date = api.MaxTime + 1 },
		"a date below 0":          func(s *api.State) { s.Boxes[0].Messages[1].Date = -1 },
		"flags above AllFlags":    func(s *api.State) { s.Boxes[0].Messages[1].Flags = 32 },
		"a Uid twice":             func(s *api.State) { s.Boxes[0].Messages[1].Uid = 2 },
		"a body too long":         func(s *api.State) { s.Boxes[1].Messages[0].Body = strings.Repeat("x", api.MaxMessage+1) },
		"too many messages":       func(s *api.State) { s.Boxes[1].Messages, s.Boxes[1].Next = messages(101), 102 },
		"subscriptions swapped":   func(s *api.State) { s.Subs[0], s.Subs[1] = s.Subs[1], s.Subs[0] },
		"a subscription twice":    func(s *api.State) { s.Subs[1] = s.Subs[0] },
		"items swapped":           func(s *api.State) { s.Queue[0], s.Queue[1] = s.Queue[1], s.Queue[0] },
		"an item twice":           func(s *api.State) { s.Queue[1].Id = 2 },
		"an item for nobody":      func(s *api.State) { s.Queue[1].For = nil },
		"an item for no user":     func(s *api.State) { s.Queue[1].For = []int{3} },
		"an item's users swapped": func(s *api.State) { s.Queue[0].For = []int{4, 0} },
		"an item's body too long": func(s *api.State) { s.Queue[1].Body = strings.Repeat("x", api.MaxMessage+1) },
		"Tries above MaxTries":    func(s *api.State) { s.Queue[1].Tries = 6 },
		"very many users":         func(s *api.State) { s.Queue[1].For = make([]int, 1<<20) },
		"very many boxes":         func(s *api.State) { s.Boxes = make([]api.Box, 1<<20) },
		"very many items":         func(s *api.State) { s.Queue = make([]api.Item, 1<<20) },
	} {
		s := rich()
		change(&s)
		if len(s.Boxes) > 100 || len(s.Queue) > 100 || len(s.Queue) > 1 && len(s.Queue[1].For) > 100 {
			_, filesErr := image.Files(s)
			_, indexErr := image.Index(s)
			_, opsErr := image.Ops(s, s)
			if image.Has(s) || filesErr != api.ErrForm || indexErr != api.ErrForm || opsErr != api.ErrForm {
				t.Errorf("%s: the answers are %v, %v, %v", name, filesErr, indexErr, opsErr)
			}
			continue
		}
		if checkState(t, s) {
			t.Errorf("%s: the state has files", name)
		}
		checkOps(t, s, rich())
		checkOps(t, rich(), s)
	}
}

func messages(n int) []api.Message {
	var list []api.Message
	for i := range n {
		list = append(list, api.Message{Uid: i + 1})
	}
	return list
}

// P16.1, P16.2: the rich state with one or two of its numbers and texts being others.
func TestMadeNeighbours(t *testing.T) {
	texts := []string{"", "INBOX", "a", "a/b", "b", "z", "a b", "From x", "x\n", " ", "\n", "\x7f", strings.Repeat("z", 60), strings.Repeat("~", 200)}
	d := dice(16)
	had := 0
	for range 20000 {
		s := rich()
		for range 1 + d.below(2) {
			numbers, texted := numbersOf(&s), textsOf(&s)
			if i := d.below(len(numbers) + len(texted)); i < len(numbers) {
				*numbers[i] = oneOf(&d, append(edges, *numbers[i]-1, *numbers[i]+1, d.below(22))...)
			} else {
				*texted[i-len(numbers)] = oneOf(&d, texts...)
			}
		}
		if checkState(t, s) {
			had++
		}
	}
	if had < 3000 || had > 17000 {
		t.Errorf("%d of the made states had files", had)
	}
}

// P16.1: numbers of all lengths, and names of files by them, rising byte by byte.
func TestNumbers(t *testing.T) {
	s, _ := post.New(1)
	s.NextValid, s.NextItem = api.MaxUid, api.MaxUid
	for i, n := range []int{1, 2, 9, 10, 19, 20, 99, 100, 1000, 10000, 100000, 1000000, 9999999, 10000000, 99999999, 100000000, 1000000000, 2147483646, 2147483647} {
		if i > 0 {
			s.Boxes = append(s.Boxes, api.Box{Name: fmt.Sprintf("n%02d", i), Valid: n, Next: n + 1, Messages: []api.Message{{Uid: n, Body: "x"}}})
		}
		s.Queue = append(s.Queue, api.Item{Id: n, For: []int{0}, Born: n, Due: n})
	}
	checkState(t, s)
	files, err := image.Files(s)
	if err != nil || len(files) != 38 || files[1].Name != "m10" || files[2].Name != "m100" {
		t.Errorf("Files answers %d files, %v", len(files), err)
	}
	if !slices.IsSortedFunc(files, func(a, b api.File) int { return strings.Compare(a.Name, b.Name) }) {
		t.Errorf("Files answers %s", told(files))
	}
}

// What is answered is the caller's own: to change it, or the state, changes no other answer.
func TestFilesAreTheCallersOwn(t *testing.T) {
	s := rich()
	first, _ := image.Files(s)
	second, _ := image.Files(s)
	if shared(fileStretches(first), fileStretches(second)) {
		t.Error("two answers share their bytes")
	}
	for i := range first {
		for j := range first[i].Bytes {
			first[i].Bytes[j] = '!'
		}
		first[i].Name = "other"
	}
	s.Boxes[0].Messages[0].Body, s.Subs[0].Name, s.Queue[0].For[0] = "other", "other", 9
	if !slices.EqualFunc(second, modelFiles(rich()).list(), isSameFile) {
		t.Errorf("an answer comes to %s", told(second))
	}
	loaded, err := image.Load(second)
	for _, f := range second {
		clear(f.Bytes)
	}
	if err != nil || !post.Same(loaded, rich()) {
		t.Errorf("what was loaded comes to %s, %v", told(loaded), err)
	}
	loaded.Boxes[0].Messages[0].Uid, loaded.Queue[0].For[0] = 77, 77
	if again, err := image.Load(second); !errors.Is(err, api.ErrForm) || !post.Same(again, api.State{}) {
		t.Errorf("Load of files without their bytes answers %s, %v", told(again), err)
	}
	if !checkState(t, rich()) {
		t.Error("the rich state has no files any more")
	}
}
