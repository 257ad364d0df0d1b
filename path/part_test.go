package path_test

import (
	"regexp"
	"strings"
	"testing"

	"postbag/api"
	"postbag/path"
)

// The chapter's words on the parts, said a second way.
var (
	localForm  = regexp.MustCompile("\\A[A-Za-z0-9!#$%&'*+/=?^_`{|}~-]+(\\.[A-Za-z0-9!#$%&'*+/=?^_`{|}~-]+)*\\z")
	domainForm = regexp.MustCompile(`\A[A-Za-z0-9]([A-Za-z0-9-]*[A-Za-z0-9])?(\.[A-Za-z0-9]([A-Za-z0-9-]*[A-Za-z0-9])?)*\z`)
)

func modelLocal(s string) bool  { return len(s) <= 64 && localForm.MatchString(s) }
func modelDomain(s string) bool { return len(s) <= 100 && domainForm.MatchString(s) }

// P8.1
func TestLocal(t *testing.T) {
	for _, k := range []struct {
		text string
		is   bool
	}{
		{"a", true},
		{"Z", true},
		{"0", true},
		{"a.b", true},
		{"a.b.c", true},
		{"-", true},
		{"-a-", true},
		{"-.-", true},
		{"!#$%&'*+-/=?^_`{|}~", true},
		{"!.#.$.%.&.'.*.+.-./.=.?.^._.`.{.|.}.~", true},
		{strings.Repeat("a", api.MaxLocal), true},
		{strings.Repeat("a.", api.MaxLocal/2-1) + "ab", true},
		{strings.Repeat("a.", api.MaxLocal/2-1) + "a", true},
		{strings.Repeat("~", api.MaxLocal), true},
		{"", false},
		{".", false},
		{"..", false},
		{".a", false},
		{"a.", false},
		{"a..b", false},
		{"a.b..c", false},
		{"a b", false},
		{" a", false},
		{"a ", false},
		{"a\n", false},
		{"a\x00", false},
		{"a@b", false},
		{"<a>", false},
		{"a,b", false},
		{"(a)", false},
		{"a;b", false},
		{"a:b", false},
		{"[a]", false},
		{`a\b`, false},
		{`"a"`, false},
		{`"a b"`, false},
		{"é", false},
		{"a\u0301", false},
		{"\u017f", false},
		{"\u0660", false},
		{"\xff", false},
		{strings.Repeat("a", api.MaxLocal+1), false},
		{strings.Repeat("a.", api.MaxLocal/2) + "a", false},
		{strings.Repeat("a.", api.MaxLocal/2), false},
		{strings.Repeat("a", api.MaxDomain), false},
		{strings.Repeat("a", 1<<22), false},
		{strings.Repeat(".", 1<<22), false},
	} {
		if got := path.Local(k.text); got != k.is {
			t.Errorf("Local(%.120q) answers %v", k.text, got)
		}
	}
}

// P8.1
func TestDomain(t *testing.T) {
	for _, k := range []struct {
		text string
		is   bool
	}{
		{"a", true},
		{"Z", true},
		{"0", true},
		{"9.9", true},
		{"host", true},
		{"a.b", true},
		{"c-d.e", true},
		{"a-b", true},
		{"a--b", true},
		{"0-0", true},
		{"127.0.0.1", true},
		{"A.b-C.9", true},
		{strings.Repeat("a", api.MaxDomain), true},
		{strings.Repeat("a.", api.MaxDomain/2-1) + "ab", true},
		{"a" + strings.Repeat("-", api.MaxDomain-2) + "b", true},
		{"", false},
		{".", false},
		{"..", false},
		{".a", false},
		{"a.", false},
		{"a..b", false},
		{"-", false},
		{"--", false},
		{"---", false},
		{"-a", false},
		{"a-", false},
		{"-a-", false},
		{"a.-b", false},
		{"a-.b", false},
		{"a.b-", false},
		{"a.-.b", false},
		{"a_b", false},
		{"a!b", false},
		{"a/b", false},
		{"a@b", false},
		{"a b", false},
		{" a", false},
		{"a ", false},
		{"a\n", false},
		{"a\x00", false},
		{"[1.2.3.4]", false},
		{"a:25", false},
		{"é", false},
		{"\u212a", false},
		{"\u0660", false},
		{"\xff", false},
		{strings.Repeat("a", api.MaxDomain+1), false},
		{strings.Repeat("a.", api.MaxDomain/2) + "a", false},
		{strings.Repeat("a.", api.MaxDomain/2), false},
		{strings.Repeat("a", 1<<22), false},
		{strings.Repeat(".", 1<<22), false},
	} {
		if got := path.Domain(k.text); got != k.is {
			t.Errorf("Domain(%.120q) answers %v", k.text, got)
		}
	}
}

// P8.1: each byte, alone, ahead of others, among them, behind them, and beside a dot.
func TestEveryByteOfParts(t *testing.T) {
	for b := range 256 {
		one := string([]byte{byte(b)})
		for _, text := range []string{one, one + "a", "a" + one + "b", "a" + one, "a." + one, one + ".a", "a." + one + ".b", "a.b" + one + "c.d", one + one} {
			checkParts(t, text)
		}
	}
}

// P8.1
func TestPartsOfEveryShortText(t *testing.T) {
	for text := range shortTexts("aZ7.-_@<> \xc3", 5) {
		checkParts(t, text)
	}
}

// P8.1: every length around the limits, of texts whose pieces are of all lengths.
func TestPartsOfEveryLength(t *testing.T) {
	for length := range 2*api.MaxDomain + 1 {
		for piece := 1; piece <= length; piece++ {
			text := []byte(strings.Repeat("x", length))
			for i := piece; i < length; i += piece + 1 {
				text[i] = '.'
			}
			checkParts(t, string(text))
		}
	}
}

func checkParts(t *testing.T, text string) {
	t.Helper()
	if got, want := path.Local(text), modelLocal(text); got != want {
		t.Fatalf("Local(%q) answers %v", text, got)
	}
	if got, want := path.Domain(text), modelDomain(text); got != want {
		t.Fatalf("Domain(%q) answers %v", text, got)
	}
}

// shortTexts is every text of at most so many of these bytes.
func shortTexts(letters string, most int) func(yield func(string) bool) {
	return func(yield func(string) bool) {
		var longer func(text string) bool
		longer = func(text string) bool {
			if !yield(text) {
				return false
			}
			if len(text) == most {
				return true
			}
			for i := range len(letters) {
				if !longer(text + letters[i:i+1]) {
					return false
				}
			}
			return true
		}
		longer("")
	}
}
