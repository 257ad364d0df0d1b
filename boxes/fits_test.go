package boxes_test

import (
	"slices"
	"strings"
	"testing"

	"postbag/boxes"
)

// modelFits asks for each front of the pattern which fronts of the name it fits.
func modelFits(pattern, name string) bool {
	fits := make([]bool, len(name)+1)
	fits[0] = true
	for i := range len(pattern) {
		next := make([]bool, len(name)+1)
		for j := range next {
			switch c := pattern[i]; {
			case c == '*':
				next[j] = fits[j] || j > 0 && next[j-1]
			case c == '%':
				next[j] = fits[j] || j > 0 && next[j-1] && name[j-1] != '/'
			default:
				next[j] = j > 0 && fits[j-1] && (name[j-1] == c || name == "INBOX" && strings.Contains("ibnox", string(rune(c))) && name[j-1] == c-32)
			}
		}
		fits = next
	}
	return fits[len(name)]
}

// modelMatch takes the least name that isn't taken yet, again and again.
func modelMatch(names []string, pattern string) []string {
	var matched []string
	for {
		least, found := "", false
		for _, name := range names {
			if modelFits(pattern, name) && (len(matched) == 0 || name > matched[len(matched)-1]) && (!found || name < least) {
				least, found = name, true
			}
		}
		if !found {
			return matched
		}
		matched = append(matched, least)
	}
}

func checkFits(t *testing.T, pattern, name string, want bool) {
	t.Helper()
	if boxes.Fits(pattern, name) != want {
		t.Fatalf("Fits(%.100q, %.100q) answers %v", pattern, name, !want)
	}
}

func checkMatch(t *testing.T, names []string, pattern string, want ...string) {
	t.Helper()
	if got := boxes.Match(names, pattern); !slices.Equal(got, want) {
		t.Fatalf("Match(%.100q, %.100q) answers %.100q, and not %.100q", names, pattern, got, want)
	}
}

// P13.1: patterns that fit: the chapter's examples, and each kind.
func TestFits(t *testing.T) {
	for _, k := range []struct{ pattern, name string }{
		{"a/%", "a/b"}, {"a*", "a/b/c"}, {"InB%", "INBOX"},
		{"", ""}, {"a", "a"}, {"a/b", "a/b"}, {"%", ""}, {"*", ""}, {"%", "a"}, {"*", "a"}, {"*", "a/b"}, {"*", "/"}, {"%/%", "a/b"}, {"%/%", "/"}, {"a%", "a"}, {"a*", "a"}, {"%a", "a"}, {"*a", "a"},
		{"a%c", "abc"}, {"a%c", "ac"}, {"a%c", "accc"}, {"a*c", "a/b/c"}, {"*/c", "a/b/c"}, {"*/%", "a/b/c"}, {"%/*", "a/b/c"}, {"a/*/c", "a/b/b/c"}, {"a/%/c", "a/b/c"}, {"a/%/c", "a//c"}, {"*b*", "a/b/c"}, {"a*b%c", "a/b/bc"}, {"a%b*c", "ab/b/c"},
		{"*a%b", "a/ab"}, {"*a%b", "a/a/ab"}, {"*a%b*", "a/b/ab"}, {"*a%/b%*c", "a/a/b/c"}, {"*a/%b/c*", "a/a/b/c"}, {"*/%/x", "a/b/c/x"}, {"%%", "ab"}, {"**", "a/b"}, {"%*%", "a/b"}, {"*%*", ""}, {"a%*%b", "a/c/b"}, {"%*", "a/b"}, {"*%", "a/b"},
		{"a*a*a", "aaa"}, {"*ab*ab*", "abab"}, {"*aab", "aaab"}, {"%aab", "aaab"}, {"*aab*", "aaab/"},
		{"inbox", "INBOX"}, {"INBOX", "INBOX"}, {"iNbOx", "INBOX"}, {"inbo%", "INBOX"}, {"%x", "INBOX"}, {"*O*", "INBOX"}, {"*o*", "INBOX"}, {"inbox%", "INBOX"}, {"inbox*", "INBOX"},
		{"a*", "a*"}, {"a%", "a%"}, {"a%", "a*"}, {"a*c", "a%c"}, {"\xff*", "\xff\xfe"}, {"%", "\xff\x00ä"}, {"a%\xa4", "aä"}, {"%\xa4", "ä"}, {"\xc3%", "ä"}, {"a b", "a b"},
	} {
		checkFits(t, k.pattern, k.name, true)
	}
}

// P13.1: patterns that don't fit.
func TestFitsNot(t *testing.T) {
	for _, k := range []struct{ pattern, name string }{
		{"a/%", "a/b/c"},
		{"", "a"}, {"a", ""}, {"a", "b"}, {"a", "ab"}, {"ab", "a"}, {"a", "a/"}, {"a/", "a"}, {"%", "/"}, {"%", "a/b"}, {"%", "a/"}, {"%", "/a"}, {"a%", "a/b"}, {"%b", "a/b"}, {"%/%", "a"}, {"%/%", "a/b/c"},
		{"a%c", "a/c"}, {"a%c", "ab"}, {"a/*", "a"}, {"*/a", "a"}, {"a/*/b", "a/b"}, {"*a*", "b/c"}, {"a*b%c", "a/b/c"}, {"a%b*c", "a/b/c"}, {"*a%b", "a/b"}, {"*a%b*", "a/b/c"}, {"%%", "a/b"}, {"aba", "ab"}, {"ab*ba", "aba"}, {"ab%ba", "aba"}, {"a*a*a", "aa"}, {"*ab*ab*", "aba/b"}, {"*a/%b/c*", "a/a/c/b"},
		{"A", "a"}, {"a", "A"}, {"A%", "ab"}, {"inbox", "inbo"}, {"inbox", "Inbox"}, {"INBOX", "inbox"}, {"iNBOX", "inbox"}, {"inbox/%", "INBOX/a"}, {"inbox*", "INBOX/a"}, {"inbox", "INBOX/a"}, {"%inbox", "aINBOX"}, {"inbox/%", "INBOX"}, {"inbox", "INBOXX"}, {"inbox*", "INBOXX"},
		{"ınbox", "INBOX"}, {"\x29nbox", "INBOX"}, {"\x69\x00", "INBOX"}, {"\xe9nbox", "INBOX"}, {"*a", "a*b"}, {"\xff", "\xfe"}, {"a?", "ab"}, {"?", "a"}, {"[a]", "a"},
	} {
		checkFits(t, k.pattern, k.name, false)
	}
}

// P13.1: all short patterns against all short names.
func TestFitsAll(t *testing.T) {
	var patterns, names []string
	rows([]string{"a", "b", "/", "%", "*"}, 5, func(s string) { patterns = append(patterns, s) })
	rows([]string{"a", "b", "/"}, 5, func(s string) { names = append(names, s) })
	for _, pattern := range patterns {
		for _, name := range names {
			if want := modelFits(pattern, name); boxes.Fits(pattern, name) != want {
				t.Fatalf("Fits(%q, %q) answers %v", pattern, name, !want)
			}
		}
	}
	rows([]string{"I", "i", "n", "b", "O", "x", "%", "*", "/"}, 5, func(pattern string) {
		for _, name := range []string{"INBOX", "inbox", "INBOX/x"} {
			if want := modelFits(pattern, name); boxes.Fits(pattern, name) != want {
				t.Fatalf("Fits(%q, %q) answers %v", pattern, name, !want)
			}
		}
	})
}

// P13.1: many longer patterns and names, made of the same few bytes so that they often nearly fit.
func TestFitsMany(t *testing.T) {
	d := dice(7)
	fitting := 0
	for range 300000 {
		name := d.row([]string{"a", "a", "b", "/", "ab", "a/"}, 14)
		pattern := d.row([]string{"a", "b", "/", "%", "*", "a%b", "/%", "*/"}, 9)
		want := modelFits(pattern, name)
		if want {
			fitting++
		}
		checkFits(t, pattern, name, want)
	}
	if fitting < 10000 {
		t.Errorf("only %d patterns fit", fitting)
	}
}

// P13.1: a name with some of its bytes replaced by what stands for them, which so fits.
func TestFitsMade(t *testing.T) {
	d := dice(11)
	for range 50000 {
		name := d.row([]string{"a", "b", "/", "cc", "A", "\xff", "é"}, 30)
		var pattern strings.Builder
		for i := 0; i < len(name); {
			end := i + d.below(len(name)-i+1)
			switch d.below(4) {
			case 0:
				pattern.WriteByte('*')
				i = end
			case 1:
				pattern.WriteByte('%')
				if j := strings.IndexByte(name[i:end], '/'); j >= 0 {
					end = i + j
				}
				i = end
			default:
				pattern.WriteByte(name[i])
				i++
			}
		}
		checkFits(t, pattern.String(), name, true)
	}
}

// P13.1: each byte for itself, and each against each for INBOX.
func TestFitsBytes(t *testing.T) {
	for p := range 256 {
		pattern := string([]byte{byte(p)})
		for c := range 256 {
			name := string([]byte{byte(c)})
			checkFits(t, pattern, name, modelFits(pattern, name))
			checkFits(t, "x"+pattern+"y", "x"+name+"y", modelFits(pattern, name))
		}
		for i := range len("INBOX") {
			q := "INBOX"[:i] + pattern + "INBOX"[i+1:]
			checkFits(t, q, "INBOX", modelFits(q, "INBOX"))
			checkFits(t, q, "INBOX/", modelFits(q, "INBOX/"))
		}
	}
}

// P13.1: great patterns and names, that a search which begins again and again wouldn't end with.
func TestFitsGreat(t *testing.T) {
	const n = 1 << 18
	as, slashes := strings.Repeat("a", n), strings.Repeat("a/", n)
	for _, k := range []struct {
		pattern, name string
		want          bool
	}{
		{strings.Repeat("*a", n), as, true},
		{strings.Repeat("*a", n) + "*", as, true},
		{strings.Repeat("*a", n+1), as, false},
		{strings.Repeat("%a", n), as, true},
		{strings.Repeat("%a", n) + "b", as, false},
		{strings.Repeat("*a", n/2) + "b", as, false},
		{strings.Repeat("a%", n), as, true},
		{strings.Repeat("*", n), as, true},
		{strings.Repeat("%", n), as, true},
		{strings.Repeat("%*", n) + "b", as, false},
		{strings.Repeat("%*", n) + "b", "b", true},
		{as, as, true},
		{as + "a", as, false},
		{"*" + as + "b", as, false},
		{"*" + as[:n/2] + "b*", as + "/" + as, false},
		{"*" + as[:n/2] + "b*", as + "b", true},
		{strings.Repeat("%/", n), slashes, true},
		{strings.Repeat("%/", n-1), slashes, false},
		{strings.Repeat("*/", n), slashes, true},
		{strings.Repeat("*/", n+1), slashes, false},
		{strings.Repeat("*a%", n), slashes, false},
		{strings.Repeat("*a%", n), slashes + "b", false},
		{strings.Repeat("*a%", n), slashes[:2*n-1], true},
		{strings.Repeat("*a%/", n), slashes, true},
		{strings.Repeat("*a%a", n/2), slashes, false},
		{"*a%b", slashes, false},
		{"*a%b*", slashes, false},
		{"*" + as + "%b*", slashes, false},
		{"*%", slashes, true},
		{"%", slashes, false},
		{strings.Repeat("*a%b", n), strings.Repeat("ab", n), true},
		{strings.Repeat("*a%b", n) + "a", strings.Repeat("ab", n), false},
	} {
		checkFits(t, k.pattern, k.name, k.want)
	}
}

// P13.1: the names that a pattern fits, each once, rising.
func TestMatch(t *testing.T) {
	all := []string{"b", "a/b", "INBOX", "a", "b", "a/b/c", "INBOX", "a/b", "B", "a-b"}
	checkMatch(t, all, "*", "B", "INBOX", "a", "a-b", "a/b", "a/b/c", "b")
	checkMatch(t, all, "%", "B", "INBOX", "a", "a-b", "b")
	checkMatch(t, all, "a/%", "a/b")
	checkMatch(t, all, "a*", "a", "a-b", "a/b", "a/b/c")
	checkMatch(t, all, "inbox", "INBOX")
	checkMatch(t, all, "i*", "INBOX")
	checkMatch(t, all, "%b%", "INBOX", "a-b", "b")
	checkMatch(t, all, "x")
	checkMatch(t, all, "")
	checkMatch(t, nil, "*")
	checkMatch(t, []string{}, "")
	checkMatch(t, []string{"", "a", ""}, "", "")
	checkMatch(t, []string{"", "a", ""}, "%", "", "a")
	checkMatch(t, []string{"\xff", "\x00", "ä", "z", "a", "A", "\x7f"}, "*", "\x00", "A", "a", "z", "\x7f", "ä", "\xff")
	checkMatch(t, []string{"inbox", "INBOX", "Inbox"}, "inbox", "INBOX", "inbox")
	checkMatch(t, []string{"inbox", "INBOX", "Inbox"}, "INBOX", "INBOX")
	checkMatch(t, []string{"a/", "/a", "/", "//"}, "%/%", "/", "/a", "a/")
	checkMatch(t, []string{"a b", "(", "%"}, "%", "%", "(", "a b")
}

// P13.1: many lists, against the model.
func TestMatchMany(t *testing.T) {
	d := dice(3)
	for range 20000 {
		var names []string
		for range d.below(12) {
			names = append(names, d.row([]string{"a", "b", "/", "INBOX", "i"}, 3))
		}
		pattern := d.row([]string{"a", "b", "/", "%", "*", "in", "BOX", "i"}, 4)
		checkMatch(t, names, pattern, modelMatch(names, pattern)...)
	}
}

// P13.1: a great list, and a great pattern beside it.
func TestMatchGreat(t *testing.T) {
	d := dice(5)
	var names []string
	for range 1 << 17 {
		names = append(names, d.row([]string{"a", "b", "/", "c"}, 12))
	}
	if got := boxes.Match(names, "%"); len(got) == 0 || slices.ContainsFunc(got, func(s string) bool { return strings.Contains(s, "/") }) {
		t.Error("Match answers otherwise of a great list")
	}
	for _, pattern := range []string{strings.Repeat("*", 1<<20), strings.Repeat("%*", 1<<19)} {
		if got := boxes.Match(names, pattern); len(got) < 1<<15 || !slices.IsSorted(got) {
			t.Errorf("Match answers %d names", len(got))
		}
	}
	for _, pattern := range []string{strings.Repeat("a", 1<<20), strings.Repeat("*a", 1<<19), strings.Repeat("%a", 1<<19), strings.Repeat("%/", 1<<19), strings.Repeat("*/", 1<<19)} {
		if got := boxes.Match(names, pattern); len(got) != 0 {
			t.Errorf("Match answers %.200q", got)
		}
	}
}

// P13.1: the list that is handed in stays as it was, and the answer is another one.
func TestNothingShared(t *testing.T) {
	names := []string{"b", "a", "INBOX", "a", "c/d"}
	kept := slices.Clone(names)
	got := boxes.Match(names, "*")
	if !slices.Equal(names, kept) {
		t.Errorf("Match leaves %q", names)
	}
	for i := range got {
		got[i] = "x"
	}
	if !slices.Equal(names, kept) {
		t.Errorf("an answer changed leaves %q", names)
	}
	rising := []string{"a", "b", "c"}
	got = boxes.Match(rising[:2], "*")
	_ = append(got, "x")
	got[0] = "y"
	if !slices.Equal(rising, []string{"a", "b", "c"}) {
		t.Errorf("an answer changed leaves %q", rising)
	}
	above := boxes.Above("a/b/c")
	above[0] = "x"
	if again := boxes.Above("a/b/c"); again[0] != "a" {
		t.Errorf("Above answers %q then", again)
	}
}
