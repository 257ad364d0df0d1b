package image_test

import (
	"errors"
	"fmt"
	"maps"
	"slices"
	"strings"
	"testing"

	"postbag/api"
	"postbag/disk"
	"postbag/image"
	"postbag/post"
	"postbag/redo"
)

func op(kind int, name string, at int, text string) api.Op {
	return api.Op{Kind: kind, Name: name, At: at, Bytes: []byte(text)}
}

// P16.1: what each change of the rich state comes to.
func TestOps(t *testing.T) {
	entry := begin + "0 1970\n"
	for name, k := range map[string]struct {
		change func(s *api.State)
		ops    []api.Op // the index's aside
	}{
		"nothing":                 {func(s *api.State) {}, nil},
		"numbers of the state":    {func(s *api.State) { s.NextItem++ }, nil},
		"flags":                   {func(s *api.State) { s.Boxes[0].Messages[0].Flags = 0 }, nil},
		"an empty box more":       {func(s *api.State) { s.Boxes[4].Name, s.Boxes[5].Name = "A", "INBOX" }, nil},
		"an empty box less":       {func(s *api.State) { s.Boxes = slices.Delete(s.Boxes, 2, 3) }, nil},
		"a message behind others": {func(s *api.State) { add(s, 0, "y") }, []api.Op{op(api.OpAppend, "m3", 171, entry+"y\n")}},
		"two messages behind":     {func(s *api.State) { add(s, 0, "y"); add(s, 0, "") }, []api.Op{op(api.OpAppend, "m3", 171, entry+"y\n"+entry+"\n")}},
		"an empty box's message":  {func(s *api.State) { add(s, 2, "y") }, []api.Op{op(api.OpAppend, "m2", 0, entry+"y\n")}},
		"its last message gone":   {func(s *api.State) { s.Boxes[1].Messages = nil }, []api.Op{op(api.OpRemove, "m1", 0, "")}},
		"the box gone":            {func(s *api.State) { s.Boxes = slices.Delete(s.Boxes, 1, 2) }, []api.Op{op(api.OpRemove, "m1", 0, "")}},
		"the first message gone":  {func(s *api.State) { s.Boxes[0].Messages = s.Boxes[0].Messages[1:] }, []api.Op{op(api.OpReplace, "m3", 0, richFiles[2].text[62:])}},
		"a last message gone":     {func(s *api.State) { s.Boxes[0].Messages = s.Boxes[0].Messages[:2] }, []api.Op{op(api.OpReplace, "m3", 0, richFiles[2].text[:107])}},
		"another date":            {func(s *api.State) { s.Boxes[4].Messages[0].Date = 1 }, []api.Op{op(api.OpReplace, "m4", 0, begin+"1 1970\n\n\n")}},
		"a longer body":           {func(s *api.State) { s.Boxes[4].Messages[0].Body += "\n" }, []api.Op{op(api.OpAppend, "m4", 46, "\n")}},
		"another body":            {func(s *api.State) { s.Boxes[4].Messages[0].Body = "x" }, []api.Op{op(api.OpReplace, "m4", 0, entry+"x\n")}},
		"a Valid that is another": {func(s *api.State) { s.Boxes[1].Valid = 18 }, []api.Op{op(api.OpRemove, "m1", 0, ""), op(api.OpAppend, "m18", 0, richFiles[1].text)}},
		"a box renamed":           {func(s *api.State) { s.Boxes[1].Name = "Z" }, nil},
		"an item more":            {func(s *api.State) { queue(s, "z") }, []api.Op{op(api.OpReplace, "q12", 0, "z")}},
		"an empty item more":      {func(s *api.State) { queue(s, "") }, []api.Op{op(api.OpReplace, "q12", 0, "")}},
		"an item gone":            {func(s *api.State) { s.Queue = s.Queue[1:] }, []api.Op{op(api.OpRemove, "q2", 0, "")}},
		"an empty item gone":      {func(s *api.State) { s.Queue = slices.Delete(s.Queue, 1, 2) }, []api.Op{op(api.OpRemove, "q5", 0, "")}},
		"an item put off":         {func(s *api.State) { s.Queue[1].Due++ }, nil},
		"an item's body longer":   {func(s *api.State) { s.Queue[0].Body = "ones" }, []api.Op{op(api.OpAppend, "q2", 3, "s")}},
		"an empty item's body":    {func(s *api.State) { s.Queue[1].Body = "x" }, []api.Op{op(api.OpAppend, "q5", 0, "x")}},
		"an item's body shorter":  {func(s *api.State) { s.Queue[0].Body = "on" }, []api.Op{op(api.OpReplace, "q2", 0, "on")}},
		"an item's body gone":     {func(s *api.State) { s.Queue[0].Body = "" }, []api.Op{op(api.OpReplace, "q2", 0, "")}},
		"a message delivered": {func(s *api.State) { add(s, 3, "one"); s.Queue = s.Queue[1:] },
			[]api.Op{op(api.OpAppend, "m10", 0, entry+"one\n"), op(api.OpRemove, "q2", 0, "")}},
	} {
		to := rich()
		k.change(&to)
		want := k.ops
		if index := modelIndex(to); index != richIndex {
			want = append([]api.Op{op(api.OpReplace, "index", 0, index)}, want...)
		}
		if ops := checkOps(t, rich(), to); !slices.EqualFunc(ops, want, isSameOp) {
			t.Errorf("%s: Ops answers %s, and not %s", name, told(ops), told(want))
		}
		checkOps(t, to, rich())
		if ops := checkOps(t, to, to); len(ops) > 0 {
			t.Errorf("%s: Ops from a state to itself answers %s", name, told(ops))
		}
	}
}

// add puts a message into a box.
func add(s *api.State, place int, body string) {
	b := &s.Boxes[place]
	b.Messages = append(slices.Clone(b.Messages), api.Message{Uid: b.Next, Body: body})
	b.Next++
}

// queue puts an item into the queue.
func queue(s *api.State, body string) {
	s.Queue = append(slices.Clone(s.Queue), api.Item{Id: s.NextItem, For: []int{0}, Body: body})
	s.NextItem++
}

// P16.1: an index that has all bytes of the old one, too, is appended to.
func TestOpsOfIndex(t *testing.T) {
	s, _ := post.New(1)
	subscribed, _, _ := post.Step(s, api.Act{Kind: api.ActSubscribe, Name: "a"})
	if ops := checkOps(t, s, subscribed); !slices.EqualFunc(ops, []api.Op{op(api.OpAppend, "index", 26, "sub 0 a\n")}, isSameOp) {
		t.Errorf("Ops answers %s", told(ops))
	}
	if ops := checkOps(t, subscribed, s); !slices.EqualFunc(ops, []api.Op{op(api.OpReplace, "index", 0, "state 2 1\nbox 0 1 1 INBOX\n")}, isSameOp) {
		t.Errorf("Ops answers %s", told(ops))
	}
	nobody := api.State{NextValid: 2, NextItem: 1}
	if ops := checkOps(t, nobody, s); !slices.EqualFunc(ops, []api.Op{op(api.OpAppend, "index", 10, "box 0 1 1 INBOX\n")}, isSameOp) {
		t.Errorf("Ops answers %s", told(ops))
	}
}

// P16.1: either state without files is refused.
func TestOpsRefuses(t *testing.T) {
	bad := rich()
	bad.Queue[0].From = "a b"
	zero := api.State{}
	for _, k := range [][2]api.State{{bad, rich()}, {rich(), bad}, {bad, bad}, {zero, rich()}, {rich(), zero}, {zero, zero}} {
		if ops, err := image.Ops(k[0], k[1]); !errors.Is(err, api.ErrForm) || len(ops) > 0 {
			t.Errorf("Ops answers %s, %v", told(ops), err)
		}
		checkOps(t, k[0], k[1])
	}
}

// P16.1, P16.2: made states that are much alike, and states that aren't; from each to the next.
func TestOpsOfMadeStates(t *testing.T) {
	kinds := map[string]int{}
	for seed := range 6000 {
		d := dice(seed)
		from, to := made(&d, seed%4 > 0), made(&d, seed%4 > 0)
		for _, op := range checkOps(t, from, to) {
			kinds[fmt.Sprint(op.Kind, op.Name[:1])]++
		}
	}
	from := greatest()
	to := greatest()
	to.Queue[3].Body = strings.Repeat("z", 100000)
	to.Boxes[2].Messages = to.Boxes[2].Messages[50:]
	to.Boxes[9].Messages = nil
	to.Queue[7].Body = ""
	checkOps(t, from, to)
	checkOps(t, to, from)
	checkOps(t, from, rich())
	checkOps(t, rich(), from)
	for _, kind := range []string{"2i", "1m", "2m", "3m", "1q", "2q", "3q"} {
		if kinds[kind] < 20 {
			t.Errorf("operations of kind %q came %d times", kind, kinds[kind])
		}
	}
}

// commit does operations by layer 6, as many at once as it takes.
func commit(t *testing.T, l *redo.Log, ops []api.Op) {
	t.Helper()
	for part := range slices.Chunk(ops, api.MaxOps) {
		if err := l.Commit(part); err != nil {
			t.Fatalf("Commit of %s answers %v", told(part), err)
		}
	}
}

// held are a log's files.
func held(l *redo.Log) []api.File {
	var files []api.File
	for _, name := range l.List() {
		b, _ := l.Read(name)
		files = append(files, api.File{Name: name, Bytes: b})
	}
	return files
}

// walk does a row of made acts, and layer 6 what each comes to; it counts what was done.
func walk(t *testing.T, d *dice, done *[14]int) {
	t.Helper()
	disk, err := disk.New(api.MaxQuota)
	if err != nil {
		t.Fatal(err)
	}
	l, err := redo.Format(disk)
	if err != nil {
		t.Fatal(err)
	}
	s, _ := post.New(1 + d.below(6))
	files, _ := image.Files(s)
	for _, f := range files {
		commit(t, l, []api.Op{{Kind: api.OpReplace, Name: f.Name, Bytes: f.Bytes}})
	}
	for range 60 {
		a := madeAct(d, s)
		next, _, err := post.Step(s, a)
		if err != nil {
			continue
		}
		done[a.Kind]++
		commit(t, l, checkOps(t, s, next))
		s = next
		if got := held(l); !maps.Equal(mapOf(got), modelFiles(s)) {
			t.Fatalf("behind %s the files are %s, and not those of %s", told(a), told(got), told(s))
		} else if back := takeLoad(t, got); !post.Same(back, s) {
			t.Fatalf("behind %s Load answers %s, and not %s", told(a), told(back), told(s))
		}
		checkState(t, s)
	}
}

func madeAct(d *dice, s api.State) api.Act {
	names := []string{"INBOX", "a", "a/b", "b", "c"}
	a := api.Act{
		Kind: 1 + d.below(13), User: d.below(6), N: 1 + d.below(s.NextItem), How: d.below(3), Flags: oneOf(d, d.below(32), 8), Date: d.below(api.MaxTime),
		Name: oneOf(d, names...), To: oneOf(d, names...), From: oneOf(d, "", "a@b"), Body: oneOf(d, "", "x", "From y\n", strings.Repeat("z\n", d.below(100))),
		Uids: []int{1, 1 + d.below(4), 1 + d.below(9)}, For: []int{d.below(len(s.Boxes)), 0},
	}
	if len(s.Queue) > 0 && d.below(4) > 0 {
		item := oneOf(d, s.Queue...)
		a.N = item.Id
		if a.Kind == api.ActDeliver {
			a.User = oneOf(d, item.For...)
		}
	}
	return a
}

// P16.2: along rows of acts, the files that layer 6 holds are the state's.
func TestRows(t *testing.T) {
	var done [14]int
	for seed := range 300 {
		d := dice(seed)
		walk(t, &d, &done)
	}
	for kind, n := range done[1:] {
		if n < 20 {
			t.Errorf("kind %d was done %d times", kind+1, n)
		}
	}
}

// What is answered is the caller's own.
func TestOpsAreTheCallersOwn(t *testing.T) {
	to := rich()
	add(&to, 0, "y")
	to.Queue = to.Queue[1:]
	first, _ := image.Ops(rich(), to)
	second, _ := image.Ops(rich(), to)
	for i := range first {
		clear(first[i].Bytes)
		_ = append(first[i].Bytes, "more"...)
		first[i].Name = "other"
	}
	if !slices.EqualFunc(second, modelOps(modelFiles(rich()), modelFiles(to)), isSameOp) {
		t.Errorf("an answer comes to %s", told(second))
	}
	checkOps(t, rich(), to)
}
