package lines_test

import (
	"math"
	"math/rand"
	"strings"
	"testing"

	"postbag/api"
	"postbag/lines"
)

// P2.1
func TestNewReaderHoldsNothing(t *testing.T) {
	r := lines.New()
	if r == nil {
		t.Fatal("New answers no reader")
	}
	noLine(t, r)
	noStretch(t, r)
	left(t, r, 0)
	r.Put(nil)
	r.Put([]byte{})
	noLine(t, r)
	left(t, r, 0)
}

// P2.1: the chapter's example.
func TestExample(t *testing.T) {
	r := lines.New()
	put(r, "ab\r\nc")
	line(t, r, "ab")
	noLine(t, r)
	expect(t, r, 2, nil)
	noStretch(t, r)
	put(r, "de")
	stretch(t, r, "cd")
	left(t, r, 1)
	put(r, "\n")
	line(t, r, "e")
	left(t, r, 0)
}

// P2.1
func TestEndsOfLines(t *testing.T) {
	for _, k := range []struct {
		text  string
		lines []string
		left  int
	}{
		{"", nil, 0},
		{"\n", []string{""}, 0},
		{"\r\n", []string{""}, 0},
		{"\r", nil, 1},
		{"a\rb\n", []string{"a\rb"}, 0},
		{"a\r\r\n", []string{"a\r"}, 0},
		{"a\n\rb\n", []string{"a", "\rb"}, 0},
		{"a\n\r\n\n", []string{"a", "", ""}, 0},
		{"a\nb\r", []string{"a"}, 2},
		{" \x00\xff\x80\t\r\n", []string{" \x00\xff\x80\t"}, 0},
		{"é\u2028\u0085\v\f\n", []string{"é\u2028\u0085\v\f"}, 0},
	} {
		r := lines.New()
		put(r, k.text)
		for _, want := range k.lines {
			line(t, r, want)
		}
		noLine(t, r)
		left(t, r, k.left)
	}
}

// P2.1: every short text, in every way to cut it in pieces.
func TestEveryCut(t *testing.T) {
	for _, text := range shortTexts("a\r\n", 6) {
		want := model(text)
		for cuts := range 1 << max(0, len(text)-1) {
			r := lines.New()
			var got []api.Line
			for _, piece := range pieces(text, cuts) {
				put(r, piece)
				got = append(got, allLines(r)...)
			}
			if !equal(got, want.lines) {
				t.Fatalf("lines of %q, cut %b, are %v, not %v", text, cuts, got, want.lines)
			}
			if r.Left() != len(want.rest) {
				t.Fatalf("%q, cut %b, leaves %d, not %d", text, cuts, r.Left(), len(want.rest))
			}
		}
	}
}

// P2.1
func TestLongLines(t *testing.T) {
	for _, k := range []struct {
		ahead string
		long  bool
	}{
		{strings.Repeat("x", api.MaxLine-1), false},
		{strings.Repeat("x", api.MaxLine), false},
		{strings.Repeat("x", api.MaxLine+1), true},
		{strings.Repeat("x", api.MaxLine-1) + "\r", false},
		{strings.Repeat("x", api.MaxLine) + "\r", true},
		{strings.Repeat("x", api.MaxLine-2) + "\r\r", false},
		{strings.Repeat("\r", api.MaxLine), false},
		{strings.Repeat("\r", api.MaxLine+1), true},
		{strings.Repeat("x", api.MaxMessage+1), true},
	} {
		want := api.Line{Long: true}
		if !k.long {
			want = api.Line{Text: strings.TrimSuffix(k.ahead, "\r")}
		}
		for _, size := range []int{1, 7, api.MaxLine, len(k.ahead) + 8} {
			r := lines.New()
			putInPieces(r, k.ahead, size)
			noLine(t, r)
			left(t, r, len(k.ahead))
			put(r, "\nnext\n")
			if l, ok := r.Line(); !ok || l != want {
				t.Fatalf("a line of %d bytes is %v, %v", len(k.ahead), l, ok)
			}
			line(t, r, "next")
			left(t, r, 0)
		}
	}
}

// P2.1: the lines around one that is long are told.
func TestLongLineAmongOthers(t *testing.T) {
	r := lines.New()
	put(r, "a\n"+strings.Repeat("b", 3*api.MaxLine)+"\r\nc\n")
	line(t, r, "a")
	if l, ok := r.Line(); !ok || !l.Long || l.Text != "" {
		t.Fatalf("Line answers %v, %v", l, ok)
	}
	line(t, r, "c")
	noLine(t, r)
}

// P2.1
func TestExpectRefuses(t *testing.T) {
	wrong := []int{0, -1, math.MinInt, api.MaxMessage + 1, math.MaxInt}
	r := lines.New()
	put(r, "ab\n")
	for _, n := range wrong {
		expect(t, r, n, api.ErrRange)
	}
	line(t, r, "ab")
	expect(t, r, 3, nil)
	for _, n := range wrong {
		expect(t, r, n, api.ErrRange)
	}
	for _, n := range []int{1, 3, api.MaxMessage} {
		expect(t, r, n, api.ErrState)
	}
	put(r, "cdef")
	expect(t, r, 1, api.ErrState)
	stretch(t, r, "cde")
	noStretch(t, r)
	left(t, r, 1)
}

// P2.1
func TestStretchOfEdges(t *testing.T) {
	for _, n := range []int{1, 2, api.MaxLine + 1, api.MaxMessage - 1, api.MaxMessage} {
		text := strings.Repeat("z\r\n\x00", n)[:n]
		r := lines.New()
		expect(t, r, n, nil)
		putInPieces(r, text[1:], 999)
		noStretch(t, r)
		left(t, r, n-1)
		put(r, text[:1]+"y")
		stretch(t, r, text[1:]+text[:1])
		left(t, r, 1)
		put(r, "\n")
		line(t, r, "y")
	}
}

// P2.1: no line is told while a stretch is waited for, whole or not.
func TestNoLineWithinStretch(t *testing.T) {
	r := lines.New()
	put(r, "a\nb\nc\nd")
	expect(t, r, 5, nil)
	noLine(t, r)
	left(t, r, 7)
	stretch(t, r, "a\nb\nc")
	line(t, r, "")
	noLine(t, r)
	expect(t, r, 4, nil)
	put(r, "e\n")
	noLine(t, r)
	noStretch(t, r)
	put(r, "f\n")
	noLine(t, r)
	stretch(t, r, "de\nf")
	line(t, r, "")
	left(t, r, 0)
}

// P2.1: bytes that were searched for a line's end may be a stretch's yet, in part or all.
func TestStretchOfSearchedBytes(t *testing.T) {
	for n := 1; n <= 6; n++ {
		r := lines.New()
		put(r, "abcd")
		noLine(t, r)
		expect(t, r, n, nil)
		put(r, "e\nf\n")
		stretch(t, r, "abcde\n"[:n])
		if n < 6 {
			line(t, r, "abcde"[n:])
		}
		line(t, r, "f")
		noLine(t, r)
	}
}

// P2.1: bytes that went as a stretch don't count for the length of the line behind it.
func TestLongnessBehindStretch(t *testing.T) {
	r := lines.New()
	put(r, strings.Repeat("x", 2*api.MaxLine+1))
	noLine(t, r)
	expect(t, r, api.MaxLine+1, nil)
	stretch(t, r, strings.Repeat("x", api.MaxLine+1))
	put(r, "\n")
	line(t, r, strings.Repeat("x", api.MaxLine))
}

// P2.1: bytes that are put are the caller's to change.
func TestPutKeepsNothing(t *testing.T) {
	r := lines.New()
	b := []byte("ab\ncd\n")
	r.Put(b)
	copy(b, "xxxxxx")
	line(t, r, "ab")
	r.Put(b)
	expect(t, r, 4, nil)
	copy(b, "yyyyyy")
	stretch(t, r, "cd\nx")
	if string(b) != "yyyyyy" {
		t.Errorf("the caller's bytes are %q", b)
	}
}

// P2.1
func TestPutChangesNothing(t *testing.T) {
	b := []byte("ab\r\ncd")[:4]
	whole := b[:6]
	r := lines.New()
	r.Put(b)
	put(r, "zz\n")
	line(t, r, "ab")
	line(t, r, "zz")
	if string(whole) != "ab\r\ncd" {
		t.Errorf("the caller's bytes are %q", whole)
	}
}

// P2.1
func TestReadersAreApart(t *testing.T) {
	r, s := lines.New(), lines.New()
	put(r, "a\n")
	expect(t, s, 1, nil)
	left(t, s, 0)
	line(t, r, "a")
	put(s, "b")
	noLine(t, r)
	noStretch(t, r)
	stretch(t, s, "b")
}

// P2.1: calls of all kinds, in any order, against a model that holds one text and cuts it anew each time.
func TestAnyCalls(t *testing.T) {
	random := rand.New(rand.NewSource(2))
	for range 3000 {
		r, m := lines.New(), &reference{}
		for range 40 {
			step(t, random, r, m)
		}
	}
}

func step(t *testing.T, random *rand.Rand, r *lines.Reader, m *reference) {
	t.Helper()
	switch random.Intn(5) {
	case 0:
		text := somePiece(random)
		put(r, text)
		m.held += text
	case 1, 2:
		l, ok := r.Line()
		if want, wantOk := m.line(); l != want || ok != wantOk {
			t.Fatalf("Line answers %v, %v, not %v, %v", l, ok, want, wantOk)
		}
	case 3:
		n := random.Intn(9) - 1
		if err, want := r.Expect(n), m.expect(n); err != want {
			t.Fatalf("Expect(%d) answers %v, not %v", n, err, want)
		}
	case 4:
		s, ok := r.Stretch()
		if want, wantOk := m.stretch(); s != want || ok != wantOk {
			t.Fatalf("Stretch answers %q, %v, not %q, %v", s, ok, want, wantOk)
		}
	}
	left(t, r, len(m.held))
}

func somePiece(random *rand.Rand) string {
	if random.Intn(8) == 0 {
		return strings.Repeat("x", api.MaxLine-2+random.Intn(4))
	}
	b := make([]byte, random.Intn(7))
	for i := range b {
		b[i] = "ab\r\n"[random.Intn(4)]
	}
	return string(b)
}

type reference struct {
	held    string
	awaited int
}

func (m *reference) line() (api.Line, bool) {
	ahead, rest, ok := strings.Cut(m.held, "\n")
	if !ok || m.awaited > 0 {
		return api.Line{}, false
	}
	m.held = rest
	if len(ahead) > 1000 {
		return api.Line{Long: true}, true
	}
	return api.Line{Text: strings.TrimSuffix(ahead, "\r")}, true
}

func (m *reference) expect(n int) error {
	switch {
	case n < 1 || n > 100000:
		return api.ErrRange
	case m.awaited > 0:
		return api.ErrState
	}
	m.awaited = n
	return nil
}

func (m *reference) stretch() (string, bool) {
	if m.awaited == 0 || len(m.held) < m.awaited {
		return "", false
	}
	s := m.held[:m.awaited]
	m.held, m.awaited = m.held[m.awaited:], 0
	return s, true
}

type told struct {
	lines []api.Line
	rest  string
}

func model(text string) told {
	m := &reference{held: text}
	var all []api.Line
	for {
		l, ok := m.line()
		if !ok {
			return told{all, m.held}
		}
		all = append(all, l)
	}
}

func allLines(r *lines.Reader) []api.Line {
	var all []api.Line
	for {
		l, ok := r.Line()
		if !ok {
			return all
		}
		all = append(all, l)
	}
}

func equal(a, b []api.Line) bool {
	if len(a) != len(b) {
		return false
	}
	for i := range a {
		if a[i] != b[i] {
			return false
		}
	}
	return true
}

// pieces cuts text behind byte i where bit i of cuts is set.
func pieces(text string, cuts int) []string {
	var all []string
	from := 0
	for i := range len(text) {
		if cuts>>i&1 == 1 || i == len(text)-1 {
			all = append(all, text[from:i+1])
			from = i + 1
		}
	}
	return all
}

// shortTexts is every text of at most length bytes, all of them of letters.
func shortTexts(letters string, length int) []string {
	all := []string{""}
	from := 0
	for range length {
		to := len(all)
		for _, text := range all[from:to] {
			for i := range len(letters) {
				all = append(all, text+letters[i:i+1])
			}
		}
		from = to
	}
	return all
}

func put(r *lines.Reader, text string) { r.Put([]byte(text)) }

func putInPieces(r *lines.Reader, text string, size int) {
	for text != "" {
		n := min(size, len(text))
		put(r, text[:n])
		if l, ok := r.Line(); ok {
			panic("a line ahead of its end: " + l.Text)
		}
		text = text[n:]
	}
}

func line(t *testing.T, r *lines.Reader, want string) {
	t.Helper()
	if l, ok := r.Line(); !ok || l.Long || l.Text != want {
		t.Fatalf("Line answers %v, %v, not %q", l, ok, want)
	}
}

func noLine(t *testing.T, r *lines.Reader) {
	t.Helper()
	if l, ok := r.Line(); ok || l != (api.Line{}) {
		t.Fatalf("Line answers %v, %v, not none", l, ok)
	}
}

func stretch(t *testing.T, r *lines.Reader, want string) {
	t.Helper()
	if s, ok := r.Stretch(); !ok || s != want {
		t.Fatalf("Stretch answers %q, %v, not %q", s, ok, want)
	}
}

func noStretch(t *testing.T, r *lines.Reader) {
	t.Helper()
	if s, ok := r.Stretch(); ok || s != "" {
		t.Fatalf("Stretch answers %q, %v, not none", s, ok)
	}
}

func expect(t *testing.T, r *lines.Reader, n int, want error) {
	t.Helper()
	if err := r.Expect(n); err != want {
		t.Fatalf("Expect(%d) answers %v, not %v", n, err, want)
	}
}

func left(t *testing.T, r *lines.Reader, want int) {
	t.Helper()
	if n := r.Left(); n != want {
		t.Fatalf("Left answers %d, not %d", n, want)
	}
}
