package header_test

import (
	"errors"
	"regexp"
	"slices"
	"strconv"
	"strings"
	"testing"

	"postbag/api"
	"postbag/header"
	"postbag/lines"
)

func f(name, value string, at, end int) api.Field {
	return api.Field{Name: name, Value: value, At: at, End: end}
}

// P9.1: the chapter's example, ordinary headers, and those that aren't in form.
func TestFields(t *testing.T) {
	for _, k := range []struct {
		message string
		body    int
		fields  []api.Field
	}{
		{"A: x\r\n y\r\nB:z\r\n\r\nbody", 17, []api.Field{f("A", "x y", 0, 10), f("B", "z", 10, 15)}},
		{"A: x\n y\nB:z\n\nbody", 13, []api.Field{f("A", "x y", 0, 8), f("B", "z", 8, 12)}},
		{"", 0, nil},
		{"\n", 1, nil},
		{"\r\n", 2, nil},
		{"\r\nA:b\r\n", 2, nil},
		{"\nA:b\n\n", 1, nil},
		{"A:b", 3, []api.Field{f("A", "b", 0, 3)}},
		{"A:b\n", 4, []api.Field{f("A", "b", 0, 4)}},
		{"A:b\n\n", 5, []api.Field{f("A", "b", 0, 4)}},
		{"A:b\n\nC:d\n\n", 5, []api.Field{f("A", "b", 0, 4)}},

		// A byte 13 belongs to a line's end only at once ahead of a byte 10.
		{"A:b\r", 4, []api.Field{f("A", "b\r", 0, 4)}},
		{"A:b \r", 5, []api.Field{f("A", "b \r", 0, 5)}},
		{"A:b\r\r\n\n", 7, []api.Field{f("A", "b\r", 0, 6)}},
		{"A:b\rC:d\n\n", 9, []api.Field{f("A", "b\rC:d", 0, 8)}},
		{"A:b\n\r", 5, []api.Field{f("A", "b", 0, 4)}},
		{"A:b\n\r\r\nC:d\n", 11, []api.Field{f("A", "b", 0, 4), f("C", "d", 7, 11)}},
		{"\r", 1, nil},
		{"\r\r\n", 3, nil},

		// Values: the blanks at the ends of the whole go, those between stay.
		{"A:\n\n", 4, []api.Field{f("A", "", 0, 3)}},
		{"A:", 2, []api.Field{f("A", "", 0, 2)}},
		{"A: \t \r\n\t \r\n\r\n", 13, []api.Field{f("A", "", 0, 11)}},
		{"A:\t b c\t \n", 10, []api.Field{f("A", "b c", 0, 10)}},
		{"A: b \n \tc \n d\n", 14, []api.Field{f("A", "b  \tc  d", 0, 14)}},
		{"A:\n b\n", 6, []api.Field{f("A", "b", 0, 6)}},
		{"A:b\n \n\n", 7, []api.Field{f("A", "b", 0, 6)}},
		{"A:b\n ", 5, []api.Field{f("A", "b", 0, 5)}},
		{"A:b\n \r", 6, []api.Field{f("A", "b \r", 0, 6)}},
		{"A:b\n C:d\nE:f\n", 13, []api.Field{f("A", "b C:d", 0, 9), f("E", "f", 9, 13)}},
		{"A:\vb\f\n", 6, []api.Field{f("A", "\vb\f", 0, 6)}},
		{"A:\u00a0b\u2003\n", 9, []api.Field{f("A", "\u00a0b\u2003", 0, 9)}},
		{"A::b:\n", 6, []api.Field{f("A", ":b:", 0, 6)}},
		{"A:\xff\x00\xc3\n", 6, []api.Field{f("A", "\xff\x00\xc3", 0, 6)}},

		// Names: as they stand; the same one several times.
		{"subJECT: x\n", 11, []api.Field{f("subJECT", "x", 0, 11)}},
		{"A:1\na:2\nA:3\n", 12, []api.Field{f("A", "1", 0, 4), f("a", "2", 4, 8), f("A", "3", 8, 12)}},
		{"!~\"(:b\n", 7, []api.Field{f("!~\"(", "b", 0, 7)}},

		// Lines that aren't of a field, with those that go on with them.
		{"A:b\nnone\n c\nD:e\n", 16, []api.Field{f("A", "b", 0, 4), f("D", "e", 12, 16)}},
		{" x:y\nA:b\n", 9, []api.Field{f("A", "b", 5, 9)}},
		{" \n\tx\nA:b\n", 9, []api.Field{f("A", "b", 5, 9)}},
		{":b\n c:d\nA:e\n", 12, []api.Field{f("A", "e", 8, 12)}},
		{"A :b\n c\nD:e\n", 12, []api.Field{f("D", "e", 8, 12)}},
		{"A b:c\n", 6, nil},
		{"A\t:c\n", 5, nil},
		{"A\x7f:b\n", 5, nil},
		{"\xc3\xa9:b\n", 5, nil},
		{"A\x00:b\n", 5, nil},
		{"A\n:b\n", 5, nil},
		{"A\n\n:b", 3, nil},
		{"none", 4, nil},
		{"From a@b Thu Jan  1 00:00:00 1970\nA:b\n", 38, []api.Field{f("A", "b", 34, 38)}},
	} {
		checkFields(t, k.message, k.fields)
		if got := header.Body(k.message); got != k.body {
			t.Errorf("Body(%q) answers %d, and not %d", k.message, got, k.body)
		}
	}
}

func checkFields(t *testing.T, message string, want []api.Field) {
	t.Helper()
	if got, err := header.Fields(message); err != nil || !slices.Equal(got, want) {
		t.Fatalf("Fields(%q) answers %+v, %v, and not %+v", message, got, err, want)
	}
}

// P9.1: MaxFields are told, one more is refused; what isn't a field isn't counted, nor what is behind the header.
func TestHowManyFields(t *testing.T) {
	for _, count := range []int{1, api.MaxFields - 1, api.MaxFields} {
		message := strings.Repeat("A:b\r\n c\r\nnone\r\n d\r\n", count) + "\r\n" + strings.Repeat("A:b\r\n", api.MaxFields)
		fields, err := header.Fields(message)
		if err != nil || len(fields) != count {
			t.Errorf("Fields answers %d fields of %d, %v", len(fields), count, err)
		}
	}
	for _, count := range []int{api.MaxFields + 1, api.MaxFields + 2, 1 << 16} {
		for _, end := range []string{"", "\n", "none\n", "\r\nbody"} {
			fields, err := header.Fields(strings.Repeat("A:b\r\n", count) + end)
			if !errors.Is(err, api.ErrFull) || len(fields) != 0 {
				t.Errorf("Fields answers %d fields of %d, %v", len(fields), count, err)
			}
		}
	}
	fields, err := header.Fields(strings.Repeat("A:b\n", api.MaxFields) + "A:b")
	if !errors.Is(err, api.ErrFull) || len(fields) != 0 {
		t.Errorf("Fields counts not the last line without an end: %v", err)
	}
}

// P9.1: each byte, wherever it may matter.
func TestEveryByte(t *testing.T) {
	for b := range 256 {
		c := string([]byte{byte(b)})
		for _, message := range []string{
			c, c + ":x\n\n", "A" + c + ":x\n\n", c + "A:x\n\n", "A" + c + "B:x\n\n",
			"A:" + c + "x\n\n", "A:x" + c + "\n\n", "A:x" + c, "A:x\n" + c + "y\n\n", "A:x\n" + c + "\n\n", "A:x\n " + c + "\n\n",
			"A:x\n" + c + ":y\n\n", "A" + c + "x\n\n", c + "\n", c + "\r\nB:x\n", "A:x\n\n" + c,
		} {
			checkAll(t, message, []string{"a", c, "A" + c})
		}
	}
}

// P9.1
func TestEveryShortMessage(t *testing.T) {
	var longer func(text string, most int)
	longer = func(text string, most int) {
		checkAll(t, text, []string{"a"})
		if most == 0 {
			return
		}
		for _, c := range []string{"a", "A", ":", " ", "\t", "\r", "\n"} {
			longer(text+c, most-1)
		}
	}
	longer("", 7)
}

// P9.1
func TestManyMessages(t *testing.T) {
	pieces := []string{"a", "A", "b", "Subject", "a:", "A: ", "b:x", "To:y", ":", " ", "\t", " a:", "\r", "\n", "\r\n", "\n", "\r\n", "\n ", "\r\n\t", "\xff", "\x7f", "~", "!"}
	seed := uint32(9)
	next := func(n int) int {
		seed = seed*1664525 + 1013904223
		return int(seed>>8) % n
	}
	for range 30000 {
		var message strings.Builder
		for range next(40) {
			message.WriteString(pieces[next(len(pieces))])
		}
		checkAll(t, message.String(), []string{"b", "A", "subJECT"}[:next(4)])
	}
}

// The chapter's words on a message's header, said a second way: by expressions over layer 2's lines.
var (
	lineEnd    = regexp.MustCompile(`\r?\n\z`)
	fieldForm  = regexp.MustCompile(`\A[!-9;-~]+:`)
	outerBlank = regexp.MustCompile(`\A[ \t]+|[ \t]+\z`)
)

// model is the fields of a message, and where its body begins.
func model(message string) (fields []api.Field, body int) {
	var open *api.Field
	tell := func() {
		if open != nil {
			open.Value = outerBlank.ReplaceAllString(open.Value, "")
			fields = append(fields, *open)
		}
		open = nil
	}
	at := 0
	for _, l := range lines.Split(message) {
		text := lineEnd.ReplaceAllString(l, "")
		end := at + len(l)
		if text == "" {
			tell()
			return fields, end
		}
		if text[0] == ' ' || text[0] == '\t' {
			if open != nil {
				open.Value += text
				open.End = end
			}
			at = end
			continue
		}
		tell()
		if start := fieldForm.FindString(text); start != "" {
			open = &api.Field{Name: start[:len(start)-1], Value: text[len(start):], At: at, End: end}
		}
		at = end
	}
	tell()
	return fields, at
}

// asciiSame says which texts are the same by a table of the letters.
func asciiSame(a, b string) bool {
	table := strings.NewReplacer("A", "a", "B", "b", "C", "c", "D", "d", "E", "e", "F", "f", "G", "g", "H", "h", "I", "i", "J", "j", "K", "k", "L", "l", "M", "m",
		"N", "n", "O", "o", "P", "p", "Q", "q", "R", "r", "S", "s", "T", "t", "U", "u", "V", "v", "W", "w", "X", "x", "Y", "y", "Z", "z")
	return table.Replace(a) == table.Replace(b)
}

func checkAll(t *testing.T, message string, names []string) {
	t.Helper()
	fields, body := model(message)
	checkFields(t, message, fields)
	if got := header.Body(message); got != body {
		t.Fatalf("Body(%q) answers %d, and not %d", message, got, body)
	}
	if got, want := header.Count(message), len(lines.Split(message)); got != want {
		t.Fatalf("Count(%q) answers %d, and not %d", message, got, want)
	}
	for _, not := range []bool{false, true} {
		want := ""
		for _, field := range fields {
			named := slices.ContainsFunc(names, func(name string) bool { return asciiSame(name, field.Name) })
			if named != not {
				want += message[field.At:field.End]
			}
		}
		if got := header.Only(message, names, not); got != want+"\r\n" {
			t.Fatalf("Only(%q, %q, %v) answers %q, and not %q", message, names, not, got, want+"\r\n")
		}
	}
}

// P9.1
func TestGetAndAll(t *testing.T) {
	fields := []api.Field{f("To", "a", 0, 0), f("cc", "", 0, 0), f("TO", "b", 0, 0), f("", "none", 0, 0), f("to", "", 0, 0), f("a b", "odd", -1, 7), f("\u212a", "kelvin", 0, 0)}
	for _, k := range []struct {
		name   string
		values []string
	}{
		{"to", []string{"a", "b", ""}},
		{"tO", []string{"a", "b", ""}},
		{"Cc", []string{""}},
		{"", []string{"none"}},
		{"A B", []string{"odd"}},
		{"\u212a", []string{"kelvin"}},
		{"k", nil},
		{"to ", nil},
		{"t", nil},
		{"tto", nil},
		{"to:", nil},
		{"bcc", nil},
	} {
		if got := header.All(fields, k.name); !slices.Equal(got, k.values) {
			t.Errorf("All of %q answers %q", k.name, got)
		}
		first, found := "", len(k.values) > 0
		if found {
			first = k.values[0]
		}
		if got, ok := header.Get(fields, k.name); got != first || ok != found {
			t.Errorf("Get of %q answers %q, %v", k.name, got, ok)
		}
	}
	if got, ok := header.Get(nil, ""); got != "" || ok {
		t.Errorf("Get of no fields answers %q, %v", got, ok)
	}
	if got := header.All(nil, ""); len(got) != 0 {
		t.Errorf("All of no fields answers %q", got)
	}
}

// P9.1: of all pairs of bytes, alone and among others.
func TestSame(t *testing.T) {
	for a := range 256 {
		for b := range 256 {
			x, y := string([]byte{byte(a)}), string([]byte{byte(b)})
			want := asciiSame(x, y)
			if got := header.Same(x, y); got != want {
				t.Errorf("Same(%q, %q) answers %v", x, y, got)
			}
			if got := header.Same("aB"+x, "Ab"+y); got != want {
				t.Errorf("Same(%q, %q) answers %v", "aB"+x, "Ab"+y, got)
			}
			if got := header.Same(x+"z", y+"Z"); got != want {
				t.Errorf("Same(%q, %q) answers %v", x+"z", y+"Z", got)
			}
		}
	}
	for _, k := range []struct {
		a, b string
		same bool
	}{
		{"", "", true},
		{"Content-Type", "content-TYPE", true},
		{"a", "", false},
		{"", "a", false},
		{"a", "ab", false},
		{"ab", "a", false},
		{"ab", "ba", false},
		{"k", "\u212a", false},
		{"s", "\u017f", false},
		{"\u00e9", "\u00c9", false},
		{"\xff", "\xfe", false},
		{"\xff", "\ufffd", false},
	} {
		if got := header.Same(k.a, k.b); got != k.same {
			t.Errorf("Same(%q, %q) answers %v", k.a, k.b, got)
		}
	}
}

// P9.1
func TestOnly(t *testing.T) {
	const message = "To: a\r\n b\r\nnone\r\n c\r\ncc:d\nTO :e\r\ntO:f\r\n\r\nTo: body\r\n"
	for _, k := range []struct {
		message string
		names   []string
		is, not string
	}{
		{"A: x\r\n y\r\nB:z\r\n\r\nbody", []string{"b"}, "B:z\r\n\r\n", "A: x\r\n y\r\n\r\n"},
		{message, nil, "\r\n", "To: a\r\n b\r\ncc:d\ntO:f\r\n\r\n"},
		{message, []string{"to"}, "To: a\r\n b\r\ntO:f\r\n\r\n", "cc:d\n\r\n"},
		{message, []string{"CC", "TO", "cc", "none"}, "To: a\r\n b\r\ncc:d\ntO:f\r\n\r\n", "\r\n"},
		{message, []string{"", "to:", "to ", "t", "\u212a"}, "\r\n", "To: a\r\n b\r\ncc:d\ntO:f\r\n\r\n"},
		{"", []string{"a"}, "\r\n", "\r\n"},
		{"\r\n", nil, "\r\n", "\r\n"},
		{"A:b", []string{"a"}, "A:b\r\n", "\r\n"},
		{"A:b\r", []string{"a"}, "A:b\r\r\n", "\r\n"},
		{"A:b\n c", []string{"a"}, "A:b\n c\r\n", "\r\n"},
		{"K:b\n", []string{"\u212a"}, "\r\n", "K:b\n\r\n"},
	} {
		if got := header.Only(k.message, k.names, false); got != k.is {
			t.Errorf("Only(%q, %q, false) answers %q", k.message, k.names, got)
		}
		if got := header.Only(k.message, k.names, true); got != k.not {
			t.Errorf("Only(%q, %q, true) answers %q", k.message, k.names, got)
		}
	}
}

// P9.1: Only tells more fields than Fields, and stays quick where fields and names are many.
func TestOnlyOfMany(t *testing.T) {
	const count = 1 << 17
	var message strings.Builder
	names := make([]string, count)
	for i := range count {
		names[i] = "n" + strconv.Itoa(i)
		message.WriteString("N" + strconv.Itoa(i) + ":x\r\n")
	}
	if got := header.Only(message.String(), names, false); got != message.String()+"\r\n" {
		t.Errorf("Only of all names answers %d bytes", len(got))
	}
	if got := header.Only(message.String(), names, true); got != "\r\n" {
		t.Errorf("Only of no names answers %d bytes", len(got))
	}
	if got := header.Only(message.String(), names[1:], true); got != "N0:x\r\n\r\n" {
		t.Errorf("Only of all names but one answers %d bytes", len(got))
	}
}

// P9.1: what is handed in stays as it was, and what is answered is the caller's own.
func TestNothingIsShared(t *testing.T) {
	const message = "A: x\nB: y\n\n"
	names := []string{"B", "A"}
	header.Only(message, names, false)
	if !slices.Equal(names, []string{"B", "A"}) {
		t.Errorf("Only changed the names: %q", names)
	}
	first, _ := header.Fields(message)
	values := header.All(first, "a")
	values[0] = "other"
	first[1].Value = "other"
	second, _ := header.Fields(message)
	if first[0].Value != "x" || second[1].Value != "y" {
		t.Errorf("answers share memory: %+v, %+v", first, second)
	}
}

// P9.1
func TestCount(t *testing.T) {
	for _, k := range []struct {
		text  string
		count int
	}{
		{"", 0},
		{"a", 1},
		{"a\n", 1},
		{"\n", 1},
		{"\n\n", 2},
		{"\r", 1},
		{"\r\n", 1},
		{"a\rb", 1},
		{"a\nb", 2},
		{"a\r\n\r\nb\r\n", 3},
		{strings.Repeat("\n", 1<<20) + "x", 1<<20 + 1},
	} {
		if got := header.Count(k.text); got != k.count {
			t.Errorf("Count(%.20q) answers %d, and not %d", k.text, got, k.count)
		}
	}
}

// P9.1: great messages take no more than a going through them.
func TestGreatMessages(t *testing.T) {
	const size = 1 << 22
	folded := "A:" + strings.Repeat("\n b", size)
	fields, err := header.Fields(folded)
	if err != nil || len(fields) != 1 || len(fields[0].Value) != 2*size-1 || fields[0].End != len(folded) {
		t.Errorf("Fields of a field of many lines answers %d fields, %v", len(fields), err)
	}
	for _, message := range []string{strings.Repeat(":", size), strings.Repeat(" \n", size), strings.Repeat("a\n", size), strings.Repeat("\r", size), strings.Repeat(":\n", size)} {
		if fields, err := header.Fields(message); err != nil || len(fields) != 0 {
			t.Errorf("Fields of %.6q and so on answers %d fields, %v", message, len(fields), err)
		}
		if got := header.Body(message); got != len(message) {
			t.Errorf("Body of %.6q and so on answers %d", message, got)
		}
		if got := header.Only(message, nil, true); got != "\r\n" {
			t.Errorf("Only of %.6q and so on answers %d bytes", message, len(got))
		}
	}
}
