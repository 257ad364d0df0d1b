package vault_test

import (
	"bytes"
	"fmt"
	"maps"
	"math"
	"slices"
	"strings"
	"testing"

	"postbag/api"
	"postbag/disk"
	"postbag/post"
	"postbag/redo"
	"postbag/vault"
)

// P17.1: the chapter's example.
func TestExample(t *testing.T) {
	d := newDisk(t, 1000)
	v, err := vault.Format(d, 1)
	must(t, err)
	answer, err := v.Do(api.Act{Kind: api.ActAppend, Name: "INBOX", Flags: api.Seen, Date: 60, Body: "hello"})
	if err != nil || !slices.Equal(answer.Uids, []int{1}) || answer.N != 0 {
		t.Fatalf("Do answers %v, %v", answer, err)
	}
	d.Crash(nil)
	w, err := vault.Open(d)
	must(t, err)
	if m, is := w.Message(0, "INBOX", 1); !is || m != (api.Message{Uid: 1, Flags: api.Seen, Date: 60, Body: "hello"}) {
		t.Errorf("behind the crash the message is %v, %v", m, is)
	}
}

// P17.1: Format of any number of users: the state and the file that are told.
func TestFormat(t *testing.T) {
	for users := range 9 {
		d := newDisk(t, 1000)
		v, err := vault.Format(d, users)
		if users < 1 || users > 6 {
			if err != api.ErrRange || v != nil || d.Steps() != 0 {
				t.Errorf("Format of %d users answers %v, %v; %d steps", users, v, err, d.Steps())
			}
			continue
		}
		must(t, err)
		want := api.State{NextValid: users + 1, NextItem: 1}
		index := fmt.Sprintf("state %d 1\n", users+1)
		for user := range users {
			want.Boxes = append(want.Boxes, api.Box{User: user, Name: "INBOX", Valid: user + 1, Next: 1})
			index += fmt.Sprintf("box %d %d 1 INBOX\n", user, user+1)
		}
		if !post.Same(v.State(), want) || v.Dead() || !v.Sound() || d.Open() != 0 || d.Steps() != 10 {
			t.Errorf("of %d users: %s, dead: %v, sound: %v, %d steps, %d open", users, told(v.State()), v.Dead(), v.Sound(), d.Steps(), d.Open())
		}
		if files := contents(d); !maps.Equal(files, map[string]string{"redo": "", "index": index}) {
			t.Errorf("of %d users the files are %q", users, files)
		}
	}
	for _, users := range []int{-1, math.MinInt, math.MaxInt, 1 << 32} {
		if v, err := vault.Format(newDisk(t, 1000), users); err != api.ErrRange || v != nil {
			t.Errorf("Format of %d users answers %v, %v", users, v, err)
		}
	}
}

// P17.1: Format's errors, in their order.
func TestFormatRefused(t *testing.T) {
	refused := func(d *disk.Disk, users int, want error) {
		t.Helper()
		if v, err := vault.Format(d, users); err != want || v != nil {
			t.Errorf("Format answers %v, %v; want %v", v, err, want)
		}
	}
	refused(nil, 0, api.ErrRange)
	refused(nil, 1, api.ErrNone)
	d := newDisk(t, 1000)
	d.Arm(0)
	refused(d, 0, api.ErrRange)
	refused(d, 7, api.ErrRange)
	refused(d, 1, api.ErrPower)
	refused(d, 1, api.ErrPower)
	d = newDisk(t, 1000)
	must(t, d.Create("redo"))
	refused(d, 7, api.ErrRange)
	refused(d, 1, api.ErrExists)
	d = newDisk(t, 1000)
	for i := range api.MaxFiles {
		must(t, d.Create(fmt.Sprint(i)))
	}
	refused(d, 1, api.ErrFull)
	must(t, d.Remove("0")) // room for the log, and not for the index
	refused(d, 1, api.ErrFull)
	if files := contents(d); len(files) != api.MaxFiles || files["redo"] != "" {
		t.Errorf("the files are %q", files)
	}
	refused(d, 1, api.ErrExists)
}

// P17.1: Format needs the room of its Commit.
func TestFormatQuota(t *testing.T) {
	const index = "state 3 1\nbox 0 1 1 INBOX\nbox 1 2 1 INBOX\n"
	needed := 8 + 1 + 1 + 1 + len("index") + 4 + 4 + len(index) + len(index) // the record, and the file
	for _, quota := range []int{0, 1, needed - 1, needed, needed + 1} {
		d := newDisk(t, quota)
		v, err := vault.Format(d, 2)
		if quota >= needed && (err != nil || !v.Sound()) || quota < needed && (err != api.ErrQuota || v != nil) {
			t.Errorf("Format with %d bytes answers %v, %v", quota, v, err)
		}
	}
}

// P17.1: Format replaces an index that is there, and leaves other files, which are none of a state.
func TestFormatAmongFiles(t *testing.T) {
	d := newDisk(t, 1000)
	must(t, d.Create("index"), d.Append("index", []byte("a very long text, which is no state's index at all")))
	v, err := vault.Format(d, 1)
	must(t, err)
	if files := contents(d); files["index"] != "state 2 1\nbox 0 1 1 INBOX\n" || !v.Sound() {
		t.Errorf("the files are %q", files)
	}
	d = newDisk(t, 1000)
	must(t, d.Create("x"))
	v, err = vault.Format(d, 1)
	must(t, err)
	if v.Sound() {
		t.Error("a vault with a file that isn't its state's is sound")
	}
	if _, err := v.Do(api.Act{Kind: api.ActSubscribe, Name: "a"}); err != nil || v.Sound() {
		t.Errorf("Do answers %v; sound: %v", err, v.Sound())
	}
	if w, err := vault.Open(d); err != api.ErrSum || w != nil {
		t.Errorf("Open answers %v, %v", w, err)
	}
}

// P17.1: Open's errors, in their order.
func TestOpenRefused(t *testing.T) {
	refused := func(d *disk.Disk, want error) {
		t.Helper()
		if v, err := vault.Open(d); err != want || v != nil {
			t.Errorf("Open answers %v, %v; want %v", v, err, want)
		}
	}
	refused(nil, api.ErrNone)
	d := newDisk(t, 1000)
	refused(d, api.ErrNone)
	_, err := redo.Format(d)
	must(t, err)
	refused(d, api.ErrSum)
	must(t, d.Remove("redo"))
	_, err = vault.Format(d, 1)
	must(t, err, d.Create("m1"))
	refused(d, api.ErrSum)
	must(t, d.Remove("m1"), d.Append("index", []byte("\n")))
	refused(d, api.ErrSum)
	must(t, d.Truncate("index", 26), d.Remove("redo"))
	refused(d, api.ErrNone)
	must(t, d.Create("redo"))
	v, err := vault.Open(d)
	must(t, err)
	d.Arm(0)
	must(t, d.SetQuota(0))
	if _, err := vault.Open(d); err != nil { // a log that is empty needs no step
		t.Errorf("Open answers %v", err)
	}
	if d.Sync("redo") != api.ErrPower {
		t.Fatal("the power isn't off")
	}
	refused(d, api.ErrPower)
	if v.Dead() || v.Sound() {
		t.Errorf("without power: dead: %v, sound: %v", v.Dead(), v.Sound())
	}
}

// P17.1: Open takes what layer 16 takes, whoever wrote it, and does first what the log has.
func TestOpen(t *testing.T) {
	s := busy(t)
	v, _ := opened(t, s)
	if !post.Same(v.State(), s) || v.Dead() || !v.Sound() {
		t.Errorf("opened is %s", told(v.State()))
	}
	behind, _, err := post.Step(s, api.Act{Kind: api.ActDeliver, N: 2, User: 2})
	must(t, err)
	from, d := opened(t, s)
	d.Arm(2) // behind the log's Sync
	if err := from.Commit(plainOps(s, behind)); err != api.ErrPower {
		t.Fatalf("Commit answers %v", err)
	}
	d.Crash(nil)
	if v, err = vault.Open(d); err != nil || !post.Same(v.State(), behind) || !v.Sound() {
		t.Errorf("Open answers %v", err)
	}
}

// P17.1: each act comes to what layer 15 answers, in the vault and in one that is opened on its disk.
func TestDo(t *testing.T) {
	s := busy(t)
	for _, a := range acts() {
		behind, wanted, err := post.Step(s, a)
		must(t, err)
		v, d := opened(t, s)
		answer, err := v.Do(a)
		if err != nil || told(answer) != told(wanted) || !post.Same(v.State(), behind) || !v.Sound() || v.Dead() || d.Open() != 0 {
			t.Errorf("%s answers %v, %v, and leaves %s", told(a), answer, err, told(v.State()))
		}
		d.Crash(nil)
		if w, err := vault.Open(d); err != nil || !post.Same(w.State(), behind) || !w.Sound() {
			t.Errorf("behind %s Open answers %v", told(a), err)
		}
	}
}

// P17.1: Do's errors are asked in their order.
func TestDoErrors(t *testing.T) {
	noKind := api.Act{}
	noDate := api.Act{Kind: api.ActQueue, From: "a b", For: []int{0}, Date: -1}
	noImage := api.Act{Kind: api.ActQueue, From: "a b", For: []int{0}}
	plainly := api.Act{Kind: api.ActQueue, From: "a@b", For: []int{0}, Body: "x"}
	v, d := opened(t, busy(t))
	must(t, d.SetQuota(0))
	isRefused(t, v, d, noKind, api.ErrForm)
	isRefused(t, v, d, noDate, api.ErrRange)
	isRefused(t, v, d, noImage, api.ErrForm)
	isRefused(t, v, d, plainly, api.ErrQuota)
	d.Arm(0)
	must(t, d.SetQuota(room))
	isRefused(t, v, d, noDate, api.ErrRange)
	isRefused(t, v, d, noImage, api.ErrForm)
	if v.Dead() || d.Off() {
		t.Fatal("an act that isn't written takes a step")
	}
	if _, err := v.Do(plainly); err != api.ErrPower || !v.Dead() || v.Sound() {
		t.Errorf("without power Do answers %v; dead: %v, sound: %v", err, v.Dead(), v.Sound())
	}
	d.Crash(nil)
	for _, a := range []api.Act{noKind, noDate, noImage, plainly, {Kind: api.ActExpunge, Name: "a"}} {
		isRefused(t, v, d, a, api.ErrState)
	}
}

// P17.1: a vault whose disk lost its power elsewhere dies by its next Commit.
func TestPowerLostElsewhere(t *testing.T) {
	v, d := opened(t, busy(t))
	d.Arm(0)
	if d.Sync("redo") != api.ErrPower || v.Dead() {
		t.Fatal("the power isn't off, or the vault is dead already")
	}
	if _, err := v.Do(api.Act{Kind: api.ActSubscribe, Name: "x"}); err != api.ErrPower || !v.Dead() {
		t.Errorf("Do answers %v; dead: %v", err, v.Dead())
	}
}

// P17.1: a From has an image, if each of its bytes is 33 to 126.
func TestNoImage(t *testing.T) {
	s := busy(t)
	for c := range 256 {
		one := string([]byte{byte(c)})
		for _, from := range []string{one, "ab" + one, one + "ab"} {
			v, d := opened(t, s)
			a := api.Act{Kind: api.ActQueue, From: from, For: []int{1}}
			if c < 33 || c > 126 {
				isRefused(t, v, d, a, api.ErrForm)
				continue
			}
			answer, err := v.Do(a)
			if q := v.State().Queue; err != nil || answer.N != 4 || q[len(q)-1].From != from || !v.Sound() {
				t.Errorf("From %q answers %v, %v", from, answer, err)
			}
		}
	}
}

// P17.1: an act that changes nothing is answered, and nothing is written: without room and without power, too.
func TestNothingToWrite(t *testing.T) {
	v, d := opened(t, busy(t))
	state, steps := v.State(), d.Steps()
	must(t, d.SetQuota(0))
	for _, lost := range []bool{false, true} {
		d.Arm(0)
		if lost && d.Sync("redo") != api.ErrPower {
			t.Fatal("the power isn't off")
		}
		for _, k := range []struct {
			a    api.Act
			uids []int
		}{
			{api.Act{Kind: api.ActSubscribe, Name: "a"}, nil},
			{api.Act{Kind: api.ActCopy, Name: "INBOX", Uids: []int{7}, To: "a"}, nil},
			{api.Act{Kind: api.ActFlags, Name: "INBOX", Uids: []int{2, 1}, How: api.HowRemove, Flags: api.Draft}, []int{1, 2}},
			{api.Act{Kind: api.ActFlags, Name: "INBOX", Uids: []int{2}, How: api.HowSet, Flags: api.Seen}, []int{2}},
			{api.Act{Kind: api.ActExpunge, Name: "a"}, nil},
		} {
			answer, err := v.Do(k.a)
			if err != nil || !slices.Equal(answer.Uids, k.uids) || answer.N != 0 {
				t.Errorf("%s answers %v, %v", told(k.a), answer, err)
			}
		}
		if v.Dead() || d.Off() != lost || d.Steps() != steps || !post.Same(v.State(), state) {
			t.Errorf("dead: %v, off: %v, %d steps, %s", v.Dead(), d.Off(), d.Steps()-steps, told(v.State()))
		}
	}
}

// P17.1: what Commit refuses is answered, and the state is what it was.
func TestCommitsErrors(t *testing.T) {
	add := api.Act{Kind: api.ActAppend, Name: "INBOX", Body: "x"}
	v, d := opened(t, busy(t))
	must(t, d.Append("m1", []byte("y")))
	isRefused(t, v, d, add, api.ErrRange)
	must(t, d.Remove("m1"))
	isRefused(t, v, d, add, api.ErrRange)
	v, d = opened(t, busy(t))
	names, err := d.List()
	must(t, err)
	for i := range api.MaxFiles - len(names) {
		must(t, d.Create(fmt.Sprint(i)))
	}
	isRefused(t, v, d, api.Act{Kind: api.ActQueue, For: []int{0}}, api.ErrFull)
	if _, err := v.Do(add); err != nil || v.Sound() {
		t.Errorf("an act that needs no new file answers %v; sound: %v", err, v.Sound())
	}
	must(t, d.Remove("0"))
	if _, err := v.Do(api.Act{Kind: api.ActQueue, For: []int{0}}); err != nil {
		t.Errorf("with a free name ActQueue answers %v", err)
	}
}

// P17.1: a vault knows what it did alone, not what another one did on its disk.
func TestTwoVaults(t *testing.T) {
	v, d := opened(t, busy(t))
	w, err := vault.Open(d)
	must(t, err)
	_, err = v.Do(api.Act{Kind: api.ActAppend, Name: "INBOX", Body: "by v"})
	must(t, err)
	if !v.Sound() || w.Sound() {
		t.Errorf("sound: %v, %v", v.Sound(), w.Sound())
	}
	isRefused(t, w, d, api.Act{Kind: api.ActAppend, Name: "INBOX", Body: "by w"}, api.ErrRange)
	if _, err := w.Do(api.Act{Kind: api.ActExpunge, Name: "INBOX"}); err != nil || v.Sound() || !w.Sound() {
		t.Errorf("ActExpunge answers %v; sound: %v, %v", err, v.Sound(), w.Sound())
	}
}

// P17.1: boxes by user and name; names count as the names that they are.
func TestBox(t *testing.T) {
	s := busy(t)
	v, _ := opened(t, s)
	for _, k := range []struct {
		user  int
		name  string
		place int
	}{
		{0, "INBOX", 0}, {0, "inbox", 0}, {0, "iNbOx", 0}, {0, "a", 1}, {0, "a/b", 2}, {0, "gone", 3}, {1, "INBOX", 4}, {2, "Inbox", 5},
		{0, "A", -1}, {0, "", -1}, {0, "a/", -1}, {0, "a//b", -1}, {0, "inbox ", -1}, {0, "*", -1}, {0, "INBOX/a", -1}, {0, "\x00", -1}, {0, strings.Repeat("a", 61), -1},
		{1, "a", -1}, {3, "INBOX", -1}, {-1, "INBOX", -1}, {math.MinInt, "INBOX", -1}, {math.MaxInt, "INBOX", -1},
	} {
		var want api.Box
		if k.place >= 0 {
			want = s.Boxes[k.place]
		}
		b, is := v.Box(k.user, k.name)
		if is != (k.place >= 0) || told(b) != told(want) {
			t.Errorf("Box(%d, %q) = %s, %v", k.user, k.name, told(b), is)
		}
		for uid := -1; uid < 4; uid++ {
			i := slices.IndexFunc(want.Messages, func(m api.Message) bool { return m.Uid == uid })
			var message api.Message
			if i >= 0 {
				message = want.Messages[i]
			}
			if m, is := v.Message(k.user, k.name, uid); is != (i >= 0) || m != message {
				t.Errorf("Message(%d, %q, %d) = %v, %v", k.user, k.name, uid, m, is)
			}
		}
	}
}

// P17.1: messages keep their numbers when others go.
func TestMessage(t *testing.T) {
	v, _ := opened(t, busy(t))
	_, err := v.Do(api.Act{Kind: api.ActExpunge, Name: "inbox"})
	must(t, err)
	if m, is := v.Message(0, "INBOX", 1); is || m != (api.Message{}) {
		t.Errorf("the message that is gone is %v, %v", m, is)
	}
	if m, is := v.Message(0, "inbox", 2); !is || m.Uid != 2 || m.Body != "From two\n>From two" {
		t.Errorf("the message that stays is %v, %v", m, is)
	}
	for _, uid := range []int{0, 3, -2, math.MinInt, math.MaxInt} {
		if m, is := v.Message(0, "INBOX", uid); is || m != (api.Message{}) {
			t.Errorf("message %d is %v, %v", uid, m, is)
		}
	}
	must(t, forget(v.Do(api.Act{Kind: api.ActAppend, Name: "INBOX", Body: "three"})))
	if m, is := v.Message(0, "INBOX", 3); !is || m.Body != "three" {
		t.Errorf("the new message is %v, %v", m, is)
	}
}

func forget(_ post.Answer, err error) error { return err }

// P17.1: a vault is sound as long as its files are those of its state.
func TestSound(t *testing.T) {
	for what, spoil := range map[string]func(d *disk.Disk) error{
		"a file more":          func(d *disk.Disk) error { return d.Create("x") },
		"a file less":          func(d *disk.Disk) error { return d.Remove("q3") },
		"a box's file less":    func(d *disk.Disk) error { return d.Remove("m4") },
		"no index":             func(d *disk.Disk) error { return d.Remove("index") },
		"a name another":       func(d *disk.Disk) error { return d.Rename("q3", "q4") },
		"a byte another":       func(d *disk.Disk) error { return d.Write("q1", 0, []byte("F")) },
		"a byte more":          func(d *disk.Disk) error { return d.Append("q3", []byte("F")) },
		"a byte less":          func(d *disk.Disk) error { return d.Truncate("q1", 6) },
		"a message's date":     func(d *disk.Disk) error { return d.Write("m1", 38, []byte("9")) },
		"an item's due":        func(d *disk.Disk) error { return replaceIn(d, "item 1 5 0 5 ", "item 1 5 0 6 ") },
		"a subscription":       func(d *disk.Disk) error { return replaceIn(d, "sub 0 a\n", "sub 0 b\n") },
		"NextItem":             func(d *disk.Disk) error { return replaceIn(d, "state 7 4\n", "state 7 5\n") },
		"flags":                func(d *disk.Disk) error { return replaceIn(d, "message 1 8 ", "message 1 9 ") },
		"the index in another": func(d *disk.Disk) error { return d.Rename("index", "m1") },
	} {
		v, d := opened(t, busy(t))
		before := contents(d)
		must(t, spoil(d))
		if maps.Equal(before, contents(d)) {
			t.Fatalf("%s: nothing changed", what)
		}
		if v.Sound() || v.Dead() {
			t.Errorf("%s: sound: %v, dead: %v", what, v.Sound(), v.Dead())
		}
	}
	v, d := opened(t, busy(t))
	must(t, d.Append("redo", []byte("xyz")), d.Remove("q1"), d.Create("q1"), d.Append("q1", []byte("for two")))
	if !v.Sound() {
		t.Error("what the log has isn't among its files, nor how they came to be")
	}
	d.Arm(0)
	if _, err := v.Do(api.Act{Kind: api.ActCreate, Name: "x"}); err != api.ErrPower {
		t.Fatal(err)
	}
	d.Crash([]int{9, 9, 9, 9, 9, 9})
	if v.Sound() || !v.Dead() {
		t.Errorf("a dead vault: sound: %v, dead: %v", v.Sound(), v.Dead())
	}
}

// replaceIn puts another text into the index.
func replaceIn(d *disk.Disk, old, text string) error {
	b, err := d.Read("index")
	if err != nil {
		return err
	}
	b = bytes.Replace(b, []byte(old), []byte(text), 1)
	if err := d.Truncate("index", 0); err != nil {
		return err
	}
	return d.Append("index", b)
}

// P17.1: what is handed in isn't changed nor kept, what is answered is the caller's own.
func TestOwn(t *testing.T) {
	s := busy(t)
	v, _ := opened(t, s)
	whole := told(s)
	got := v.State()
	for i := range got.Boxes {
		for j := range got.Boxes[i].Messages {
			got.Boxes[i].Messages[j] = api.Message{Uid: 77}
		}
		got.Boxes[i] = api.Box{}
	}
	for i := range got.Queue {
		got.Queue[i].For[0] = 77
		got.Queue[i] = api.Item{}
	}
	got.Subs[0] = api.Sub{}
	_ = append(got.Boxes[:0], api.Box{Name: "over"})
	b, _ := v.Box(0, "INBOX")
	b.Messages[0], b.Messages[1] = api.Message{}, api.Message{}
	_ = append(b.Messages[:0], api.Message{Uid: 9})
	if told(v.State()) != whole || !v.Sound() {
		t.Errorf("the caller's change shows: %s", told(v.State()))
	}
	a := api.Act{Kind: api.ActQueue, For: []int{2, 0, 2}, Body: "x"}
	_, err := v.Do(a)
	must(t, err)
	if !slices.Equal(a.For, []int{2, 0, 2}) {
		t.Errorf("Do changed what it was handed: %v", a.For)
	}
	a.For[0], a.For[1], a.For[2] = 9, 9, 9
	if q := v.State().Queue; !slices.Equal(q[len(q)-1].For, []int{0, 2}) {
		t.Errorf("the caller's change shows: %v", q)
	}
	a = api.Act{Kind: api.ActFlags, Name: "INBOX", Uids: []int{2, 1}, Flags: api.Draft}
	answer, err := v.Do(a)
	if err != nil || !slices.Equal(a.Uids, []int{2, 1}) || !slices.Equal(answer.Uids, []int{1, 2}) {
		t.Errorf("Do answers %v, %v, and leaves %v", answer, err, a.Uids)
	}
	answer.Uids[0], a.Uids[0] = 9, 9
	if !v.Sound() || v.State().Boxes[0].Messages[0].Uid != 1 {
		t.Error("the caller's change shows")
	}
}

// P17.1: a state that was answered stays as it was, whatever is done behind it.
func TestStateStays(t *testing.T) {
	s := busy(t)
	v, _ := opened(t, s)
	first := v.State()
	for _, a := range acts() {
		v.Do(a)
		if !post.Same(first, s) {
			t.Fatalf("%s shows in a state that was answered ahead of it", told(a))
		}
	}
	if post.Same(v.State(), s) {
		t.Error("nothing was done")
	}
}

// P17.1: the greatest acts of great boxes are done, and each is one change.
func TestGreat(t *testing.T) {
	d := newDisk(t, 10*room)
	v, err := vault.Format(d, 1)
	must(t, err)
	half := strings.Repeat("x", api.MaxBoxBytes/2-46)
	for _, a := range []api.Act{
		{Kind: api.ActCreate, Name: "many"},
		{Kind: api.ActCreate, Name: "full"},
		{Kind: api.ActCreate, Name: "other"},
		{Kind: api.ActAppend, Name: "full", Flags: api.Deleted, Body: "a"},
		{Kind: api.ActAppend, Name: "full", Body: half},
		{Kind: api.ActAppend, Name: "full", Body: half[:len(half)-46]},
		{Kind: api.ActQueue, For: []int{0}, Body: strings.Repeat("y", api.MaxMessage)},
	} {
		must(t, forget(v.Do(a)))
	}
	for range api.MaxMessages {
		must(t, forget(v.Do(api.Act{Kind: api.ActAppend, Name: "many", Date: api.MaxTime, Body: "m"})))
	}
	before, steps := v.State(), d.Steps()
	for _, a := range []api.Act{
		{Kind: api.ActCopy, Name: "full", Uids: []int{1, 2, 3}, To: "other"},
		{Kind: api.ActExpunge, Name: "full"},
		{Kind: api.ActDelete, Name: "other"},
		{Kind: api.ActDeliver, N: 1, Date: api.MaxTime},
	} {
		must(t, forget(v.Do(a)))
	}
	if post.Same(before, v.State()) || !v.Sound() || d.Open() != 0 || d.Steps()-steps > 4*20 {
		t.Errorf("behind great acts: sound: %v, %d steps, %d open", v.Sound(), d.Steps()-steps, d.Open())
	}
	d.Crash(nil)
	w, err := vault.Open(d)
	must(t, err)
	if !post.Same(w.State(), v.State()) || !w.Sound() {
		t.Error("opened is another state")
	}
}
