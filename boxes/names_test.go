package boxes_test

import (
	"errors"
	"regexp"
	"slices"
	"strings"
	"testing"

	"postbag/api"
	"postbag/boxes"
)

// The chapter's words on names and on texts that may be patterns, said a second way.
var (
	nameForm    = regexp.MustCompile(`\A[!#$&'+-.0-Z\[\]^_` + "`" + `a-z|}~]+(/[!#$&'+-.0-Z\[\]^_` + "`" + `a-z|}~]+)*\z`)
	inboxForm   = regexp.MustCompile(`\A[Ii][Nn][Bb][Oo][Xx]\z`)
	patternForm = regexp.MustCompile(`\A[!#$%&'*-Z\[\]^_` + "`" + `a-z|}~]*\z`)
)

func modelName(s string) (string, bool) {
	if len(s) > 60 || !nameForm.MatchString(s) {
		return "", false
	}
	if inboxForm.MatchString(s) {
		return "INBOX", true
	}
	return s, true
}

func modelPattern(s string) bool { return len(s) <= 100 && patternForm.MatchString(s) }

func checkName(t *testing.T, s, want string) {
	t.Helper()
	if got, err := boxes.Name(s); err != nil || got != want {
		t.Fatalf("Name(%.200q) answers %.200q, %v, and not %q", s, got, err, want)
	}
}

func checkNoName(t *testing.T, s string) {
	t.Helper()
	if got, err := boxes.Name(s); !errors.Is(err, api.ErrName) || got != "" {
		t.Fatalf("Name(%.200q) answers %.200q, %v, and not ErrName", s, got, err)
	}
}

func checkAsModel(t *testing.T, s string) {
	t.Helper()
	if want, is := modelName(s); is {
		checkName(t, s, want)
	} else {
		checkNoName(t, s)
	}
	if boxes.Pattern(s) != modelPattern(s) {
		t.Fatalf("Pattern(%.200q) answers %v", s, !modelPattern(s))
	}
}

// rows calls f with all rows of pieces, of up to some of them.
func rows(pieces []string, most int, f func(string)) {
	var grow func(text string, left int)
	grow = func(text string, left int) {
		f(text)
		if left == 0 {
			return
		}
		for _, piece := range pieces {
			grow(text+piece, left-1)
		}
	}
	grow("", most)
}

type dice uint64

func (d *dice) below(n int) int {
	*d = *d*6364136223846793005 + 1442695040888963407
	return int(*d>>33) % n
}

func (d *dice) row(pieces []string, most int) string {
	var b strings.Builder
	for range d.below(most + 1) {
		b.WriteString(pieces[d.below(len(pieces))])
	}
	return b.String()
}

// P13.1: names, INBOX in all letters among them.
func TestName(t *testing.T) {
	for _, s := range []string{
		"a", "A", "0", "a/b", "a/b/c", "ab/cd", "!", "~", "!#$&'+,-.:;<=>?@[]^_`|}~", "}", "a.b", "..", "-",
		"inbo", "inboxx", "xinbox", "inbox/a", "INBOX/a", "a/inbox", "a/INBOX", "Inbox/inbox", "INBOX.a", "1NBOX",
		strings.Repeat("a", 60), strings.Repeat("a/", 29) + "ab", "a/" + strings.Repeat("b", 58), "INBOX/" + strings.Repeat("i", 54),
	} {
		checkName(t, s, s)
	}
	for i := range 32 {
		s := []byte("INBOX")
		for j := range s {
			s[j] += byte(i >> j & 1 * 32)
		}
		checkName(t, string(s), "INBOX")
	}
}

// P13.1: what isn't a name, and why it isn't.
func TestNoName(t *testing.T) {
	for _, s := range []string{
		"", "/", "//", "/a", "a/", "a//b", "/a/", "a/b/", "/inbox", "inbox/", "a/b//c", "a///b",
		" ", "a b", " a", "a ", "inbox ", "a\x00", "\x00", "\x1f", "a\n", "a\r\n", "\t", "\x7f", "\x80", "\xff", "a\x7fb", "a\xc3\xa4", "ä", "\u212a", "ınbox", "İNBOX",
		"(", ")", "{", "%", "*", `"`, `\`, "a(b", "a)b", "a{b", "a%", "*a", `"a"`, `a\b`, "a/%", "a/*/b", "inb%", "INBOX*",
		strings.Repeat("a", 61), strings.Repeat("a/", 30) + "b", strings.Repeat("a", 60) + "/", strings.Repeat("a", 1<<22), strings.Repeat("/", 1<<22),
	} {
		checkNoName(t, s)
	}
}

// P13.1: texts that may be patterns, and others.
func TestPattern(t *testing.T) {
	for _, s := range []string{
		"", "a", "%", "*", "/", "//", "/a/", "a/%", "*%*", "INBOX", "!#$%&'*+,-./:;<=>?@[]^_`|}~",
		strings.Repeat("a", 100), strings.Repeat("*", 100), strings.Repeat("/", 100),
	} {
		if !boxes.Pattern(s) {
			t.Errorf("Pattern(%q) answers false", s)
		}
	}
	for _, s := range []string{
		" ", "a b", "\x00", "\x1f", "\x7f", "\x80", "\xff", "ä", "(", ")", "{", `"`, `\`, "a(", "%)", "{*", `*"`, `a\*`, "a\r\n",
		strings.Repeat("a", 101), strings.Repeat("%", 101), strings.Repeat("*", 1<<22),
	} {
		if boxes.Pattern(s) {
			t.Errorf("Pattern(%.200q) answers true", s)
		}
	}
}

// P13.1: each byte in each place, and lengths around both limits.
func TestBytesOfNames(t *testing.T) {
	for _, s := range []string{"a", "ab/cd", "inbox", "a/b/c", "INBOX/x"} {
		for at := range len(s) + 1 {
			for c := range 256 {
				checkAsModel(t, s[:at]+string([]byte{byte(c)})+s[at:])
				if at < len(s) {
					checkAsModel(t, s[:at]+string([]byte{byte(c)})+s[at+1:])
				}
			}
		}
	}
	for n := range 130 {
		for _, piece := range []string{"a", "a/", "/", "%", "inbox", "\x7f"} {
			s := strings.Repeat(piece, n)
			checkAsModel(t, s[:min(n, len(s))])
			checkAsModel(t, s+"b")
		}
	}
}

// P13.1: all short rows of pieces, and many longer ones.
func TestRowsOfNames(t *testing.T) {
	pieces := []string{"a", "/", "INBOX", "inb", "oX", "%", "*", "}", "~", "{", "\x7f", "ä", " "}
	rows(pieces, 4, func(s string) { checkAsModel(t, s) })
	d := dice(1)
	for range 20000 {
		checkAsModel(t, d.row([]string{"a", "a", "a", "a", "bb", "/", "x.y", "INBOX", "-"}, 40))
	}
}

// P13.1: names under others, of any texts; INBOX is as it stands.
func TestUnder(t *testing.T) {
	for _, k := range []struct {
		name, base string
		is         bool
	}{
		{"a/b", "a", true}, {"a/b/c", "a", true}, {"a/b/c", "a/b", true}, {"INBOX/a", "INBOX", true}, {"a//", "a", true}, {"a//", "a/", false}, {"a///", "a/", true},
		{"/x", "", true}, {"//", "", true}, {"a/ ", "a", true}, {"a/\x00", "a", true}, {"\xff/b", "\xff", true}, {"%/b", "%", true}, {"ab/ab/ab", "ab", true},
		{"a", "a", false}, {"a/", "a", false}, {"", "", false}, {"/", "", false}, {"x", "", false}, {"a", "a/b", false}, {"ab", "a", false}, {"ab/c", "a", false}, {"a.b", "a", false},
		{"b/a", "a", false}, {"a/b", "b", false}, {"A/b", "a", false}, {"a/b", "A", false}, {"inbox/a", "INBOX", false}, {"INBOX/a", "inbox", false}, {"x/a/b", "a", false}, {"a/b", "%", false}, {"a/b", "*", false}, {"", "a", false},
	} {
		if boxes.Under(k.name, k.base) != k.is {
			t.Errorf("Under(%q, %q) answers %v", k.name, k.base, !k.is)
		}
	}
}

// P13.1: what stands ahead of each "/", of any text.
func TestAbove(t *testing.T) {
	for _, k := range []struct {
		name string
		want []string
	}{
		{"", nil}, {"a", nil}, {"INBOX", nil}, {"a\\b", nil},
		{"a/b", []string{"a"}}, {"a/b/c", []string{"a", "a/b"}}, {"inbox/b", []string{"inbox"}},
		{"/", []string{""}}, {"//", []string{"", "/"}}, {"/a", []string{""}}, {"a/", []string{"a"}}, {"a//b", []string{"a", "a/"}}, {"\xff/ä/\x00", []string{"\xff", "\xff/ä"}},
	} {
		if got := boxes.Above(k.name); !slices.Equal(got, k.want) {
			t.Errorf("Above(%q) answers %q, and not %q", k.name, got, k.want)
		}
	}
}

// P13.1: names that go along with others.
func TestMoved(t *testing.T) {
	for _, k := range []struct {
		name, from, to, want string
		is                   bool
	}{
		{"a/x", "a", "b/c", "b/c/x", true}, {"a", "a", "b", "b", true}, {"a/b/c", "a/b", "x", "x/c", true}, {"a/a/a", "a", "b", "b/a/a", true}, {"a/x", "a", "a", "a/x", true},
		{"a", "a", "", "", true}, {"a/b", "a", "", "/b", true}, {"", "", "x", "x", true}, {"/y", "", "x", "x/y", true}, {"INBOX", "INBOX", "old", "old", true}, {"INBOX/a", "INBOX", "old", "old/a", true},
		{"a//", "a", "b", "b//", true}, {"a/x", "a", "a/x/y", "a/x/y/x", true}, {"\xff", "\xff", "ä", "ä", true},
		{"a", "b", "c", "", false}, {"ab", "a", "c", "", false}, {"a/", "a", "c", "", false}, {"a", "a/b", "c", "", false}, {"A", "a", "c", "", false}, {"inbox", "INBOX", "c", "", false}, {"INBOX/a", "inbox", "c", "", false}, {"b/a", "a", "c", "", false}, {"", "a", "c", "", false}, {"/", "", "c", "", false}, {"x", "", "c", "", false}, {"a/b", "%", "c", "", false},
	} {
		if got, ok := boxes.Moved(k.name, k.from, k.to); got != k.want || ok != k.is {
			t.Errorf("Moved(%q, %q, %q) answers %q, %v", k.name, k.from, k.to, got, ok)
		}
	}
}

// modelUnder goes through the bytes.
func modelUnder(name, base string) bool {
	if len(name) < len(base)+2 {
		return false
	}
	for i := range len(base) {
		if name[i] != base[i] {
			return false
		}
	}
	return name[len(base)] == '/'
}

// P13.1: Under, Above and Moved, of all pairs of short texts.
func TestPairs(t *testing.T) {
	var texts []string
	rows([]string{"a", "b", "/", "A", "%"}, 4, func(s string) { texts = append(texts, s) })
	for _, name := range texts {
		if got := boxes.Above(name); len(got) != strings.Count(name, "/") || slices.ContainsFunc(got, func(s string) bool { return !strings.HasPrefix(name, s+"/") }) || !slices.IsSortedFunc(got, func(a, b string) int { return len(a) - len(b) }) {
			t.Fatalf("Above(%q) answers %q", name, got)
		}
		for _, base := range texts {
			under := modelUnder(name, base)
			if boxes.Under(name, base) != under {
				t.Fatalf("Under(%q, %q) answers %v", name, base, !under)
			}
			got, ok := boxes.Moved(name, base, "to")
			want := ""
			if under || name == base {
				want = "to" + name[len(base):]
			}
			if ok != (want != "") || got != want {
				t.Fatalf("Moved(%q, %q, to) answers %q, %v", name, base, got, ok)
			}
		}
	}
}

// P13.1: great texts.
func TestGreatNames(t *testing.T) {
	long := strings.Repeat("a/", 1<<21)
	if !boxes.Under(long+"b", long[:len(long)-1]) || boxes.Under(long, long[:len(long)-1]) {
		t.Error("Under answers otherwise of great texts")
	}
	if got := boxes.Above(long); len(got) != 1<<21 || got[1<<20] != long[:1<<21+1] {
		t.Error("Above answers otherwise of a great text")
	}
	if got, ok := boxes.Moved(long+"b", long[:len(long)-1], "c"); !ok || got != "c/b" {
		t.Errorf("Moved answers %.200q, %v of great texts", got, ok)
	}
	if got, ok := boxes.Moved("a/b", "a", long); !ok || got != long+"/b" {
		t.Errorf("Moved to a great text answers %.200q, %v", got, ok)
	}
}
