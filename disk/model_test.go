package disk_test

import (
	"bytes"
	"fmt"
	"maps"
	"math/rand"
	"slices"
	"strings"
	"testing"

	"postbag/api"
	"postbag/disk"
)

// system is what a disk and its model have in common.
type system interface {
	Create(name string) error
	Append(name string, b []byte) error
	Write(name string, at int, b []byte) error
	Truncate(name string, n int) error
	Rename(from, to string) error
	Remove(name string) error
	Sync(name string) error
	SyncDir() error
	Read(name string) ([]byte, error)
	Size(name string) (int, error)
	List() ([]string, error)
	Used() int
	Quota() int
	SetQuota(n int) error
	Arm(n int)
	Off() bool
	Steps() int
	Open() int
	Crash(keep []int)
}

var _ system = (*disk.Disk)(nil)

// model does what the chapter says in the plainest way: it keeps all files for ever, what is sure as copies, and does open steps again from there.
type model struct {
	files       []*modelFile
	names, sure map[string]int
	open        []modelStep
	quota       int
	armed       int
	off         bool
	steps       int
}

type modelFile struct {
	now, sure []byte
	open      []modelStep
}

type modelStep struct {
	kind  string
	names [2]string
	n     int
	bytes []byte
}

func newModel(quota int) *model {
	return &model{names: map[string]int{}, sure: map[string]int{}, quota: quota, armed: -1}
}

func rightName(name string) bool {
	return name != "" && len(name) <= 24 && strings.Trim(name, "abcdefghijklmnopqrstuvwxyz0123456789-.") == ""
}

func (m *model) refuse(names ...string) error {
	if m.off {
		return api.ErrPower
	}
	for _, name := range names {
		if !rightName(name) {
			return api.ErrName
		}
	}
	if len(names) > 0 {
		if _, there := m.names[names[0]]; !there {
			return api.ErrNone
		}
	}
	return nil
}

func (m *model) power() error {
	if m.armed == 0 {
		m.off = true
		return api.ErrPower
	}
	m.armed = max(-1, m.armed-1)
	m.steps++
	return nil
}

func doNames(names map[string]int, s modelStep) {
	switch s.kind {
	case "create":
		names[s.names[0]] = s.n
	case "rename":
		if s.names[0] != s.names[1] {
			names[s.names[1]] = names[s.names[0]]
			delete(names, s.names[0])
		}
	case "remove":
		delete(names, s.names[0])
	}
}

func doBytes(old []byte, s modelStep) []byte {
	b := bytes.Clone(old)
	switch s.kind {
	case "append":
		b = append(b, s.bytes...)
	case "write":
		for i, c := range s.bytes {
			if s.n+i < len(b) {
				b[s.n+i] = c
			} else {
				b = append(b, c)
			}
		}
	case "truncate":
		b = b[:s.n]
	}
	return b
}

func (m *model) stepNames(s modelStep) error {
	if err := m.power(); err != nil {
		return err
	}
	doNames(m.names, s)
	m.open = append(m.open, s)
	return nil
}

func (m *model) stepFile(name string, s modelStep) error {
	f := m.files[m.names[name]]
	b := doBytes(f.now, s)
	if s.kind != "truncate" && m.Used()-len(f.now)+len(b) > m.quota {
		return api.ErrQuota
	}
	if err := m.power(); err != nil {
		return err
	}
	f.now = b
	f.open = append(f.open, s)
	return nil
}

func (m *model) Create(name string) error {
	err := m.refuse(name)
	if err == nil {
		return api.ErrExists
	}
	if err != api.ErrNone {
		return err
	}
	if len(m.names) >= 64 {
		return api.ErrFull
	}
	err = m.stepNames(modelStep{kind: "create", names: [2]string{name}, n: len(m.files)})
	if err == nil {
		m.files = append(m.files, &modelFile{})
	}
	return err
}

func (m *model) Append(name string, b []byte) error {
	if err := m.refuse(name); err != nil {
		return err
	}
	return m.stepFile(name, modelStep{kind: "append", bytes: bytes.Clone(b)})
}

func (m *model) Write(name string, at int, b []byte) error {
	size, err := m.Size(name)
	if err != nil {
		return err
	}
	if at < 0 || at > size {
		return api.ErrRange
	}
	return m.stepFile(name, modelStep{kind: "write", n: at, bytes: bytes.Clone(b)})
}

func (m *model) Truncate(name string, n int) error {
	size, err := m.Size(name)
	if err != nil {
		return err
	}
	if n < 0 || n > size {
		return api.ErrRange
	}
	return m.stepFile(name, modelStep{kind: "truncate", n: n})
}

func (m *model) Rename(from, to string) error {
	if err := m.refuse(from, to); err != nil {
		return err
	}
	return m.stepNames(modelStep{kind: "rename", names: [2]string{from, to}})
}

func (m *model) Remove(name string) error {
	if err := m.refuse(name); err != nil {
		return err
	}
	return m.stepNames(modelStep{kind: "remove", names: [2]string{name}})
}

func (m *model) Sync(name string) error {
	if err := m.refuse(name); err != nil {
		return err
	}
	if err := m.power(); err != nil {
		return err
	}
	f := m.files[m.names[name]]
	f.sure, f.open = bytes.Clone(f.now), nil
	return nil
}

func (m *model) SyncDir() error {
	if err := m.refuse(); err != nil {
		return err
	}
	if err := m.power(); err != nil {
		return err
	}
	m.sure, m.open = maps.Clone(m.names), nil
	return nil
}

func (m *model) Read(name string) ([]byte, error) {
	if err := m.refuse(name); err != nil {
		return nil, err
	}
	return bytes.Clone(m.files[m.names[name]].now), nil
}

func (m *model) Size(name string) (int, error) {
	b, err := m.Read(name)
	return len(b), err
}

func (m *model) List() ([]string, error) {
	if err := m.refuse(); err != nil {
		return nil, err
	}
	return slices.Sorted(maps.Keys(m.names)), nil
}

func (m *model) Used() int {
	used := 0
	for _, number := range m.names {
		used += len(m.files[number].now)
	}
	return used
}

func (m *model) Quota() int { return m.quota }

func (m *model) SetQuota(n int) error {
	if n < 0 || n > 1<<30 {
		return api.ErrRange
	}
	m.quota = n
	return nil
}

func (m *model) Arm(n int)  { m.armed = max(-1, n) }
func (m *model) Off() bool  { return m.off }
func (m *model) Steps() int { return m.steps }

func (m *model) Open() int {
	open := len(m.open)
	for _, f := range m.files {
		open += len(f.open)
	}
	return open
}

func (m *model) Crash(keep []int) {
	at := 0
	number := func(most int) int {
		at++
		if at > len(keep) || keep[at-1] < 0 {
			return 0
		}
		return keep[at-1] % (most + 1)
	}
	k := number(len(m.open))
	for _, s := range m.open[:k] {
		doNames(m.sure, s)
	}
	for _, f := range m.files {
		if len(f.open) == 0 {
			continue
		}
		k := number(len(f.open))
		for _, s := range f.open[:k] {
			f.sure = doBytes(f.sure, s)
		}
		if k < len(f.open) && f.open[k].kind != "truncate" {
			s := f.open[k]
			s.bytes = s.bytes[:number(len(s.bytes))]
			f.sure = doBytes(f.sure, s)
		}
		f.now, f.open = bytes.Clone(f.sure), nil
	}
	m.names, m.open = maps.Clone(m.sure), nil
	m.off, m.armed = false, -1
}

// call is a call with its arguments.
type call struct {
	kind     string
	name, to string
	n        int
	bytes    []byte
	keep     []int
}

// do makes a call, and tells what it answers.
func do(s system, c call) string {
	switch c.kind {
	case "create":
		return fmt.Sprint(s.Create(c.name))
	case "append":
		return fmt.Sprint(s.Append(c.name, c.bytes))
	case "write":
		return fmt.Sprint(s.Write(c.name, c.n, c.bytes))
	case "truncate":
		return fmt.Sprint(s.Truncate(c.name, c.n))
	case "rename":
		return fmt.Sprint(s.Rename(c.name, c.to))
	case "remove":
		return fmt.Sprint(s.Remove(c.name))
	case "sync":
		return fmt.Sprint(s.Sync(c.name))
	case "syncdir":
		return fmt.Sprint(s.SyncDir())
	case "quota":
		return fmt.Sprint(s.SetQuota(c.n))
	case "arm":
		s.Arm(c.n)
	case "crash":
		s.Crash(c.keep)
	default:
		panic("no such call: " + c.kind)
	}
	return ""
}

// look is all that can be asked of a disk.
func look(s system, names []string) string {
	list, err := s.List()
	text := fmt.Sprintf("%q %v, used %d of %d, off %v, %d steps, %d open", list, err, s.Used(), s.Quota(), s.Off(), s.Steps(), s.Open())
	for _, name := range names {
		b, err := s.Read(name)
		size, sizeErr := s.Size(name)
		text += fmt.Sprintf("; %q: %q %v %d %v", name, b, err, size, sizeErr)
	}
	return text
}

// held makes the calls on a disk and on its model, and fails where they differ.
func held(t *testing.T, quota int, calls []call, names []string) {
	t.Helper()
	d, err := disk.New(quota)
	if err != nil {
		t.Fatal(err)
	}
	m := newModel(quota)
	for i, c := range calls {
		got, want := do(d, c), do(m, c)
		if got != want {
			t.Fatalf("%v: the last one answers %s, not %s", calls[:i+1], got, want)
		}
		if got, want := look(d, names), look(m, names); got != want {
			t.Fatalf("%v: then it has\n%s, not\n%s", calls[:i+1], got, want)
		}
	}
}

// randomCalls: few names, so that they meet; one in some is wrong.
func randomCalls(r *rand.Rand, n int, names []string, crashes bool) []call {
	kinds := strings.Fields("create create append append append write write write truncate truncate rename rename remove sync syncdir")
	if crashes {
		kinds = append(kinds, "crash", "arm", "quota")
	}
	calls := make([]call, n)
	for i := range calls {
		c := call{kind: kinds[r.Intn(len(kinds))], name: names[r.Intn(len(names))], to: names[r.Intn(len(names))], n: r.Intn(8) - 1}
		for range r.Intn(5) {
			c.bytes = append(c.bytes, byte('a'+r.Intn(26)))
		}
		if c.kind == "quota" {
			c.n = r.Intn(50) - 1
		}
		for range r.Intn(12) {
			c.keep = append(c.keep, r.Intn(12)-1)
		}
		calls[i] = c
	}
	return calls
}

// P5.1, in every order.
func TestRandomCalls(t *testing.T) {
	names := []string{"a", "b", "c.1", "d-2", "", "A"}
	for seed := range 3000 {
		r := rand.New(rand.NewSource(int64(seed)))
		quota := 30
		if seed%2 == 0 {
			quota = 1000
		}
		held(t, quota, randomCalls(r, 20+r.Intn(100), names[:3+r.Intn(4)], seed%3 > 0), names)
	}
}

// P5.1: rows of calls without a crash between, then one with every way to keep steps.
func TestCrashesBehindRandomCalls(t *testing.T) {
	names := []string{"a", "b", "c"}
	for seed := range 4000 {
		r := rand.New(rand.NewSource(int64(seed)))
		calls := randomCalls(r, 5+r.Intn(60), names, false)
		keep := []int{r.Intn(30), r.Intn(30), r.Intn(30), r.Intn(30), r.Intn(30), r.Intn(30), r.Intn(30), r.Intn(30)}
		calls = append(calls, call{kind: "crash", keep: keep[:r.Intn(9)]})
		calls = append(calls, randomCalls(r, 10, names, true)...)
		held(t, 1000, calls, names)
	}
}

// P5.1: all rows of four calls of a few ones, behind two that stand.
func TestShortRowsOfCalls(t *testing.T) {
	few := []call{
		{kind: "create", name: "a"},
		{kind: "create", name: "b"},
		{kind: "append", name: "a", bytes: []byte("xyz")},
		{kind: "write", name: "a", n: 1, bytes: []byte("uv")},
		{kind: "truncate", name: "a", n: 1},
		{kind: "rename", name: "a", to: "b"},
		{kind: "rename", name: "a", to: "a"},
		{kind: "remove", name: "a"},
		{kind: "sync", name: "a"},
		{kind: "syncdir"},
		{kind: "arm", n: 1},
		{kind: "quota", n: 4},
		{kind: "crash"},
		{kind: "crash", keep: []int{1, 0, 1}},
	}
	row := make([]call, 6)
	row[0], row[1] = few[0], few[2]
	for i := range len(few) * len(few) * len(few) * len(few) {
		for k := 2; k < 6; k++ {
			row[k] = few[i%len(few)]
			i /= len(few)
		}
		held(t, 7, row, []string{"a", "b"})
	}
}

// FuzzCalls: bytes as calls.
func FuzzCalls(f *testing.F) {
	f.Add([]byte("\x00\x00\x02\x01\x0c\x00"))
	kinds := strings.Fields("create append write truncate rename remove sync syncdir arm quota crash")
	names := []string{"a", "b", "c", "B"}
	f.Fuzz(func(t *testing.T, text []byte) {
		var calls []call
		for len(text) >= 3 {
			kind, a, b := int(text[0]), int(text[1]), int(text[2])
			c := call{kind: kinds[kind%len(kinds)], name: names[a%4], to: names[b%4], n: b%16 - 1, bytes: text[:b%4], keep: []int{a % 7, b % 5, a % 3, b % 4, a}}
			calls, text = append(calls, c), text[3:]
		}
		held(t, 20, calls, names)
	})
}
