package quote_test

import (
	"strings"
	"testing"

	"postbag/quote"
)

// P3.1: what a line looks like, and what becomes of it.
func TestLine(t *testing.T) {
	many := strings.Repeat(">", 5000)
	for _, k := range []struct {
		line              string
		separator, quoted bool
		quote, unquote    string
	}{
		{"From a", true, false, ">From a", "From a"},
		{"From ", true, false, ">From ", "From "},
		{"From a\n", true, false, ">From a\n", "From a\n"},
		{"From \n", true, false, ">From \n", "From \n"},
		{"From From ", true, false, ">From From ", "From From "},
		{">From a", false, true, ">>From a", "From a"},
		{">From ", false, true, ">>From ", "From "},
		{">From a\r\n", false, true, ">>From a\r\n", "From a\r\n"},
		{">>From a\n", false, true, ">>>From a\n", ">From a\n"},
		{many + "From \xff", false, true, many + ">From \xff", many[1:] + "From \xff"},
		{"", false, false, "", ""},
		{"\n", false, false, "\n", "\n"},
		{">", false, false, ">", ">"},
		{many, false, false, many, many},
		{">\n", false, false, ">\n", ">\n"},
		{"F", false, false, "F", "F"},
		{"From", false, false, "From", "From"},
		{">From", false, false, ">From", ">From"},
		{"From\n", false, false, "From\n", "From\n"},
		{">From\n", false, false, ">From\n", ">From\n"},
		{"From\ta", false, false, "From\ta", "From\ta"},
		{"From: a", false, false, "From: a", "From: a"},
		{">From:  a", false, false, ">From:  a", ">From:  a"},
		{"Fromm a", false, false, "Fromm a", "Fromm a"},
		{"from a", false, false, "from a", "from a"},
		{"FROM a", false, false, "FROM a", "FROM a"},
		{">FROM a", false, false, ">FROM a", ">FROM a"},
		{" From a", false, false, " From a", " From a"},
		{" >From a", false, false, " >From a", " >From a"},
		{"> From a", false, false, "> From a", "> From a"},
		{">\tFrom a", false, false, ">\tFrom a", ">\tFrom a"},
		{"> >From a", false, false, "> >From a", "> >From a"},
		{">x>From a", false, false, ">x>From a", ">x>From a"},
		{"xFrom a", false, false, "xFrom a", "xFrom a"},
		{"\x00From a", false, false, "\x00From a", "\x00From a"},
		{"\ufeffFrom a", false, false, "\ufeffFrom a", "\ufeffFrom a"},
		{"＞From a", false, false, "＞From a", "＞From a"},
		{"From\u00a0a", false, false, "From\u00a0a", "From\u00a0a"},
		{"\rFrom a", false, false, "\rFrom a", "\rFrom a"},
	} {
		checkLine(t, k.line, k.separator, k.quoted)
		if got := quote.Quote(k.line); got != k.quote {
			t.Errorf("Quote(%q) answers %q, not %q", k.line, got, k.quote)
		}
		if got := quote.Unquote(k.line); got != k.unquote {
			t.Errorf("Unquote(%q) answers %q, not %q", k.line, got, k.unquote)
		}
	}
}

// P3.1: a text of several lines is asked by its beginning alone, and gets one mark.
func TestLineOfSeveral(t *testing.T) {
	for _, k := range []struct {
		text              string
		separator, quoted bool
		quote, unquote    string
	}{
		{"From a\nFrom b\n>From c", true, false, ">From a\nFrom b\n>From c", "From a\nFrom b\n>From c"},
		{">From a\n>From b\n", false, true, ">>From a\n>From b\n", "From a\n>From b\n"},
		{"x\nFrom a\n", false, false, "x\nFrom a\n", "x\nFrom a\n"},
		{"\nFrom a\n", false, false, "\nFrom a\n", "\nFrom a\n"},
		{">\nFrom a\n", false, false, ">\nFrom a\n", ">\nFrom a\n"},
	} {
		checkLine(t, k.text, k.separator, k.quoted)
		if got := quote.Quote(k.text); got != k.quote {
			t.Errorf("Quote(%q) answers %q, not %q", k.text, got, k.quote)
		}
		if got := quote.Unquote(k.text); got != k.unquote {
			t.Errorf("Unquote(%q) answers %q, not %q", k.text, got, k.unquote)
		}
	}
}

// P3.1: every short text, against a model that takes marks off one by one.
func TestLineOfEveryShortText(t *testing.T) {
	for _, text := range shortTexts() {
		marks, named := taken(text)
		checkLine(t, text, named && marks == 0, named && marks > 0)
		if got, want := quote.Quote(text), modelQuote(text); got != want {
			t.Fatalf("Quote(%q) answers %q, not %q", text, got, want)
		}
		if got, want := quote.Unquote(text), modelUnquote(text); got != want {
			t.Fatalf("Unquote(%q) answers %q, not %q", text, got, want)
		}
		if got := quote.Unquote(quote.Quote(text)); got != text {
			t.Fatalf("Unquote of Quote of %q is %q", text, got)
		}
	}
}

func checkLine(t *testing.T, line string, separator, quoted bool) {
	t.Helper()
	if s, q := quote.Looks(line); s != separator || q != quoted {
		t.Errorf("Looks(%q) answers %v, %v, not %v, %v", line, s, q, separator, quoted)
	}
}

// taken is how many marks a line begins with, and whether the name of a separator comes behind them.
func taken(line string) (marks int, named bool) {
	for line != "" && line[0] == '>' {
		line = line[1:]
		marks++
	}
	return marks, len(line) >= 5 && line[:5] == "From "
}

func modelQuote(line string) string {
	if _, named := taken(line); named {
		return ">" + line
	}
	return line
}

func modelUnquote(line string) string {
	if marks, named := taken(line); named && marks > 0 {
		return line[1:]
	}
	return line
}

// shortTexts is every row of at most six of the pieces of which what matters is made.
func shortTexts() []string {
	pieces := []string{">", "From ", "From", " ", "\n", "\r", "\xff"}
	all := []string{""}
	from := 0
	for range 6 {
		to := len(all)
		for _, text := range all[from:to] {
			for _, piece := range pieces {
				all = append(all, text+piece)
			}
		}
		from = to
	}
	return all
}
