package vault_test

import (
	"bytes"
	"fmt"
	"maps"
	"math/rand"
	"regexp"
	"slices"
	"strings"
	"testing"

	"postbag/api"
	"postbag/disk"
	"postbag/image"
	"postbag/post"
	"postbag/redo"
	"postbag/vault"
)

func must(t *testing.T, errs ...error) {
	t.Helper()
	for i, err := range errs {
		if err != nil {
			t.Fatalf("call %d answers %v", i, err)
		}
	}
}

func newDisk(t *testing.T, quota int) *disk.Disk {
	t.Helper()
	d, err := disk.New(quota)
	must(t, err)
	return d
}

// contents is the files of a disk with their bytes, the log among them; none, if the power is off.
func contents(d *disk.Disk) map[string]string {
	files := map[string]string{}
	names, _ := d.List()
	for _, name := range names {
		b, _ := d.Read(name)
		files[name] = string(b)
	}
	return files
}

// filesOf is a state's files with their bytes.
func filesOf(s api.State) map[string]string {
	files := map[string]string{}
	list, _ := image.Files(s)
	for _, f := range list {
		files[f.Name] = string(f.Bytes)
	}
	return files
}

// told is anything as a text: nil and empty lists are the same in it.
func told(x any) string { return fmt.Sprintf("%+v", x) }

// plain is a vault that does what the chapter says, sentence by sentence, with a log of layer 6 on a disk of its own.
type plain struct {
	*redo.Log
	state api.State
}

func plainFormat(d *disk.Disk, users int) (*plain, error) {
	if users < 1 || users > 6 {
		return nil, api.ErrRange
	}
	l, err := redo.Format(d)
	if err != nil {
		return nil, err
	}
	s := api.State{NextValid: users + 1, NextItem: 1}
	index := fmt.Sprintf("state %d 1\n", users+1)
	for user := range users {
		s.Boxes = append(s.Boxes, api.Box{User: user, Name: "INBOX", Valid: user + 1, Next: 1})
		index += fmt.Sprintf("box %d %d 1 INBOX\n", user, user+1)
	}
	if err := l.Commit([]api.Op{{Kind: api.OpReplace, Name: "index", Bytes: []byte(index)}}); err != nil {
		return nil, err
	}
	return &plain{l, s}, nil
}

func plainOpen(d *disk.Disk) (*plain, error) {
	l, err := redo.Open(d)
	if err != nil {
		return nil, err
	}
	var files []api.File
	for name, b := range contents(d) {
		if name != "redo" {
			files = append(files, api.File{Name: name, Bytes: []byte(b)})
		}
	}
	s, err := image.Load(files)
	if err != nil {
		return nil, api.ErrSum
	}
	return &plain{l, s}, nil
}

// plainOps is what makes one state's files another one's.
func plainOps(from, to api.State) []api.Op {
	old, now := filesOf(from), filesOf(to)
	names := maps.Clone(old)
	maps.Copy(names, now)
	var ops []api.Op
	for _, name := range slices.Sorted(maps.Keys(names)) {
		was, had := old[name]
		is, has := now[name]
		op := api.Op{Kind: api.OpReplace, Name: name, Bytes: []byte(is)}
		if !has {
			op.Kind = api.OpRemove
		} else if (had || name[0] == 'm') && strings.HasPrefix(is, was) {
			op = api.Op{Kind: api.OpAppend, Name: name, At: len(was), Bytes: []byte(is[len(was):])}
		}
		if had != has || was != is {
			ops = append(ops, op)
		}
	}
	return ops
}

var fromForm = regexp.MustCompile(`\A[!-~]*\z`)

func (p *plain) do(a api.Act) (post.Answer, error) {
	if p.Dead() {
		return post.Answer{}, api.ErrState
	}
	next, answer, err := post.Step(p.state, a)
	if err != nil {
		return post.Answer{}, err
	}
	for _, item := range next.Queue {
		if !fromForm.MatchString(item.From) {
			return post.Answer{}, api.ErrForm
		}
	}
	if ops := plainOps(p.state, next); len(ops) > 0 {
		if err := p.Commit(ops); err != nil {
			return post.Answer{}, err
		}
	}
	p.state = next
	return answer, nil
}

func (p *plain) box(user int, name string) (api.Box, bool) {
	if strings.EqualFold(name, "INBOX") {
		name = "INBOX"
	}
	for _, b := range p.state.Boxes {
		if b.User == user && b.Name == name {
			return b, true
		}
	}
	return api.Box{}, false
}

func (p *plain) message(user int, name string, uid int) (api.Message, bool) {
	b, _ := p.box(user, name)
	for _, m := range b.Messages {
		if m.Uid == uid {
			return m, true
		}
	}
	return api.Message{}, false
}

func (p *plain) sound() bool {
	files := contents(p.Disk)
	delete(files, "redo")
	return !p.Dead() && maps.Equal(files, filesOf(p.state))
}

// pair is vaults and their models, on two disks, driven by the same calls. The last vaults are the newest ones; those ahead of them don't know what these did.
type pair struct {
	t    *testing.T
	r    *rand.Rand
	d, e *disk.Disk
	vs   []*vault.Vault
	ps   []*plain
	row  []string
	saw  map[string]int
}

func newPair(t *testing.T, seed int64, quota int, saw map[string]int) *pair {
	return &pair{t: t, r: rand.New(rand.NewSource(seed)), d: newDisk(t, quota), e: newDisk(t, quota), saw: saw}
}

func (p *pair) note(format string, args ...any) { p.row = append(p.row, fmt.Sprintf(format, args...)) }

func (p *pair) same(what string, got, want any) {
	p.t.Helper()
	if told(got) != told(want) {
		p.t.Fatalf("%s: %s, want %s; behind:\n%s", what, told(got), told(want), strings.Join(p.row, "\n"))
	}
}

// begin takes what Format or Open answered.
func (p *pair) begin(what string, v *vault.Vault, err error, m *plain, want error) {
	p.t.Helper()
	p.saw[fmt.Sprint(what, " ", want)]++
	p.same(what, err, want)
	if err == nil {
		p.vs, p.ps = append(p.vs, v), append(p.ps, m)
	} else if v != nil {
		p.t.Fatalf("%s answers a vault beside %v", what, err)
	}
}

func (p *pair) format() {
	p.t.Helper()
	users := p.r.Intn(5)
	p.note("Format %d", users)
	v, err := vault.Format(p.d, users)
	m, want := plainFormat(p.e, users)
	p.begin("Format", v, err, m, want)
}

func (p *pair) open() {
	p.t.Helper()
	p.note("Open")
	v, err := vault.Open(p.d)
	m, want := plainOpen(p.e)
	p.begin("Open", v, err, m, want)
}

// which is a vault's place: most often the newest one's.
func (p *pair) which() int {
	if p.r.Intn(25) == 0 {
		return p.r.Intn(len(p.vs))
	}
	return len(p.vs) - 1
}

func (p *pair) do() {
	p.t.Helper()
	i := p.which()
	a := madeAct(p.r, p.ps[i].state)
	p.note("vault %d: %s", i, told(a))
	answer, err := p.vs[i].Do(a)
	wanted, want := p.ps[i].do(a)
	p.saw[fmt.Sprint("Do ", want)]++
	p.same("Do", err, want)
	p.same("Do's answer", answer, wanted)
	p.lookAt(i)
}

// meddle does something to the disk beside the vaults.
func (p *pair) meddle() {
	p.t.Helper()
	name := oneOf(p.r, "index", "m1", "m2", "q1", "q2", "x", "redo")
	k := p.r.Intn(6)
	p.note("meddle %d with %q", k, name)
	p.same("meddling", meddle(p.d, k, name), meddle(p.e, k, name))
}

func meddle(d *disk.Disk, k int, name string) error {
	switch k {
	case 0:
		return d.Create(name)
	case 1:
		return d.Append(name, []byte("x"))
	case 2:
		return d.Truncate(name, 0)
	case 3:
		return d.Remove(name)
	case 4:
		return d.Rename(name, "m3")
	}
	return d.Sync(name)
}

func (p *pair) call() {
	p.t.Helper()
	switch k := p.r.Intn(60); {
	case len(p.vs) == 0 || k == 0:
		p.format()
	case k <= 5:
		p.open()
	case k <= 9:
		n := p.r.Intn(30) - 2
		p.note("Arm %d", n)
		p.d.Arm(n)
		p.e.Arm(n)
	case k <= 13:
		keep := numbers(p.r)
		p.note("Crash %v", keep)
		p.d.Crash(keep)
		p.e.Crash(keep)
	case k <= 15:
		n := p.r.Intn(2500)
		p.note("SetQuota %d", n)
		must(p.t, p.d.SetQuota(n), p.e.SetQuota(n))
	case k == 16 && p.r.Intn(4) == 0:
		p.meddle()
	default:
		p.do()
	}
	p.look()
}

// look holds against each other all that can be seen.
func (p *pair) look() {
	p.t.Helper()
	p.same("Off", p.d.Off(), p.e.Off())
	p.same("Steps", p.d.Steps(), p.e.Steps())
	p.same("Open steps", p.d.Open(), p.e.Open())
	p.same("Quota", p.d.Quota(), p.e.Quota())
	p.same("Used", p.d.Used(), p.e.Used())
	if !maps.Equal(contents(p.d), contents(p.e)) {
		p.same("files", contents(p.d), contents(p.e))
	}
	if len(p.vs) > 0 {
		p.lookAt(p.which())
	}
}

func (p *pair) lookAt(i int) {
	p.t.Helper()
	v, m := p.vs[i], p.ps[i]
	if !post.Same(v.State(), m.state) {
		p.same("State", v.State(), m.state)
	}
	p.same("Dead", v.Dead(), m.Dead())
	p.same("Sound", v.Sound(), m.sound())
	user, name, uid := p.r.Intn(5)-1, oneOf(p.r, names...), p.r.Intn(6)
	if len(m.state.Boxes) > 0 && p.r.Intn(2) == 0 {
		b := oneOf(p.r, m.state.Boxes...)
		user, name = b.User, b.Name
	}
	what := fmt.Sprintf(" of %d, %q, %d", user, name, uid)
	b, has := v.Box(user, name)
	wantBox, is := m.box(user, name)
	p.same("Box"+what, has, is)
	p.same("Box"+what, b, wantBox)
	message, has := v.Message(user, name, uid)
	wantMessage, is := m.message(user, name, uid)
	p.same("Message"+what, has, is)
	p.same("Message"+what, message, wantMessage)
}

func oneOf[T any](r *rand.Rand, list ...T) T { return list[r.Intn(len(list))] }

// numbers is a row of small numbers for a crash.
func numbers(r *rand.Rand) []int {
	row := make([]int, r.Intn(10))
	for i := range row {
		row[i] = r.Intn(60)
	}
	return row
}

var names = []string{"INBOX", "INBOX", "inbox", "InBox", "a", "a", "a/b", "b", "A", "INBOX/a", "a//b", ""}

// number is most often one from least to most.
func number(r *rand.Rand, least, most int) int {
	if r.Intn(25) == 0 {
		return oneOf(r, -1, 6, 1<<40, -1<<63)
	}
	return least + r.Intn(most-least+1)
}

// madeAct is an act that isn't far from what a state takes.
func madeAct(r *rand.Rand, s api.State) api.Act {
	a := api.Act{
		Kind: number(r, 1, 13), User: number(r, 0, 2), N: number(r, 1, 3), How: number(r, 0, 2), Flags: number(r, 0, 31), Date: number(r, 0, 1<<31),
		Name: oneOf(r, names...), To: oneOf(r, names...), From: oneOf(r, "", "", "a@b", "a b", "\x1f", "~", "!", "é", "\x7f", strings.Repeat("f", 201)),
		Body: oneOf(r, "", "x", "From a\nFrom b", "s\r\n\r\nhello\r\n", strings.Repeat("y", 100)),
	}
	for range r.Intn(4) {
		a.Uids = append(a.Uids, number(r, 1, 5))
		a.For = append(a.For, number(r, 0, 1))
	}
	if len(s.Boxes) > 0 && r.Intn(3) > 0 {
		a.User = oneOf(r, s.Boxes...).User
	}
	if len(s.Queue) > 0 && r.Intn(3) > 0 {
		item := oneOf(r, s.Queue...)
		a.N = item.Id
		if a.Kind == api.ActDeliver {
			a.User = item.For[0]
		}
	}
	return a
}

// P17.1: random rows of calls, with losses of power at any step, little room, a disk that others use, too, and vaults that don't know what others did.
func TestRandomRows(t *testing.T) {
	saw := map[string]int{}
	for seed := range 1200 {
		p := newPair(t, int64(seed), 100+seed%15*150, saw)
		for range 70 {
			p.call()
		}
	}
	for call, errs := range map[string][]error{
		"Format": {nil, api.ErrRange, api.ErrExists, api.ErrQuota, api.ErrPower},
		"Open":   {nil, api.ErrNone, api.ErrPower, api.ErrSum},
		"Do":     {nil, api.ErrState, api.ErrForm, api.ErrUser, api.ErrName, api.ErrNone, api.ErrExists, api.ErrRange, api.ErrQuota, api.ErrPower},
	} {
		for _, err := range errs {
			if n := saw[fmt.Sprint(call, " ", err)]; n < 20 {
				t.Errorf("%s answered %v just %d times", call, err, n)
			}
		}
	}
}

// P17.1: any row of calls that numbers tell.
func FuzzRows(f *testing.F) {
	f.Add(int64(1), 300)
	f.Add(int64(7), 3000)
	f.Fuzz(func(t *testing.T, seed int64, quota int) {
		p := newPair(t, seed, max(0, min(quota, api.MaxQuota)), map[string]int{})
		for range 80 {
			p.call()
		}
	})
}

// P17.1: what is opened is what layer 16 makes of the files, with any byte of the index or of a box's file another one.
func TestOpenOfChangedFiles(t *testing.T) {
	s := busy(t)
	for name, b := range filesOf(s) {
		for i := range len(b) {
			for _, c := range []byte{0, '\n', ' ', '0', '1', 'a', 'b', 'm', b[i] ^ 1, b[i] + 1} {
				changed := []byte(b)
				changed[i] = c
				d := diskOf(t, s)
				must(t, d.Truncate(name, 0), d.Append(name, changed))
				v, err := vault.Open(d)
				m, want := plainOpen(d)
				if err != want || (v == nil) != (m == nil) || v != nil && !post.Same(v.State(), m.state) {
					t.Fatalf("Open of %q with byte %d as %q answers %v, want %v", name, i, c, err, want)
				}
				if v != nil && (!v.Sound() || v.Dead() || bytes.Equal(changed, []byte(b)) != post.Same(v.State(), s)) {
					t.Fatalf("Open of %q with byte %d as %q: sound: %v, dead: %v", name, i, c, v.Sound(), v.Dead())
				}
			}
		}
	}
}
