package lines_test

import (
	"slices"
	"strings"
	"testing"

	"postbag/lines"
)

// P2.1
func TestSplit(t *testing.T) {
	long := strings.Repeat("x", 5000)
	for _, k := range []struct {
		text  string
		lines []string
	}{
		{"", nil},
		{"a", []string{"a"}},
		{"a\n", []string{"a\n"}},
		{"a\nb", []string{"a\n", "b"}},
		{"a\r\nb\r\n", []string{"a\r\n", "b\r\n"}},
		{"\n\n", []string{"\n", "\n"}},
		{"\r", []string{"\r"}},
		{"a\rb\n\r", []string{"a\rb\n", "\r"}},
		{"\x00\xff\n\x80", []string{"\x00\xff\n", "\x80"}},
		{long + "\n" + long, []string{long + "\n", long}},
	} {
		if got := lines.Split(k.text); !slices.Equal(got, k.lines) {
			t.Errorf("Split(%q) answers %q, not %q", k.text, got, k.lines)
		}
	}
}

// P2.1: each line but the last one ends with its only byte 10, and none is empty.
func TestSplitOfEveryShortText(t *testing.T) {
	for _, text := range shortTexts("a\r\n", 7) {
		got := lines.Split(text)
		for i, l := range got {
			ends := strings.Count(l, "\n")
			whole := ends == 1 && strings.HasSuffix(l, "\n")
			last := i == len(got)-1 && ends == 0 && l != ""
			if !whole && !last {
				t.Fatalf("Split(%q) answers %q", text, got)
			}
		}
	}
}

// P2.2
func TestJoinOfSplit(t *testing.T) {
	texts := shortTexts("a\r\n\xff", 6)
	texts = append(texts, strings.Repeat("line\r\n", 20000), strings.Repeat("\n", 100000)+"end")
	for _, text := range texts {
		if got := lines.Join(lines.Split(text)); got != text {
			t.Fatalf("Join of Split of %q is %q", text, got)
		}
	}
}

// P2.1: Join takes whatever texts as lines.
func TestJoin(t *testing.T) {
	for _, k := range []struct {
		lines []string
		text  string
	}{
		{nil, ""},
		{[]string{}, ""},
		{[]string{""}, ""},
		{[]string{"a"}, "a"},
		{[]string{"a", "b"}, "ab"},
		{[]string{"a\n", "", "b\r\n\n", "\xff"}, "a\nb\r\n\n\xff"},
	} {
		given := slices.Clone(k.lines)
		if got := lines.Join(given); got != k.text || !slices.Equal(given, k.lines) {
			t.Errorf("Join(%q) answers %q, not %q", k.lines, got, k.text)
		}
	}
}

// P2.1: what Split answers is the caller's own.
func TestSplitIsTheCallersOwn(t *testing.T) {
	text := "a\nb\n"
	first := lines.Split(text)
	first[0] = "changed"
	if again := lines.Split(text); !slices.Equal(again, []string{"a\n", "b\n"}) {
		t.Errorf("Split answers %q", again)
	}
}
