package section_test

import (
	"errors"
	"fmt"
	"math"
	"regexp"
	"slices"
	"strconv"
	"strings"
	"testing"

	"postbag/api"
	"postbag/section"
)

func path(numbers ...int) []int { return numbers }

func names(texts ...string) []string { return texts }

// equal says a second time what Same asks.
func equal(a, b section.Spec) bool {
	if len(a.Path) != len(b.Path) || len(a.Names) != len(b.Names) || a.What != b.What {
		return false
	}
	for i := range a.Path {
		if a.Path[i] != b.Path[i] {
			return false
		}
	}
	for i := range a.Names {
		if a.Names[i] != b.Names[i] {
			return false
		}
	}
	return true
}

// show is a section for whoever reads what failed: of long ones the beginning.
func show(s section.Spec) string {
	text := fmt.Sprintf("%v %q %q", s.Path[:min(len(s.Path), 30)], s.What, s.Names[:min(len(s.Names), 30)])
	return text[:min(len(text), 300)]
}

func checkParse(t *testing.T, text string, want section.Spec) {
	t.Helper()
	got, err := section.Parse(text)
	if err != nil || !equal(got, want) {
		t.Fatalf("Parse(%.200q) answers %s, %v, and not %s", text, show(got), err, show(want))
	}
}

func checkNoText(t *testing.T, text string) {
	t.Helper()
	if got, err := section.Parse(text); !errors.Is(err, api.ErrForm) || !equal(got, section.Spec{}) {
		t.Fatalf("Parse(%.200q) answers %s, %v, and not ErrForm", text, show(got), err)
	}
}

func checkText(t *testing.T, s section.Spec, want string) {
	t.Helper()
	if got, err := section.Text(s); err != nil || got != want {
		t.Fatalf("Text(%s) answers %.200q, %v, and not %.200q", show(s), got, err, want)
	}
}

// checkNoSpec holds Bytes to it, too: nothing is meant by a section without a text.
func checkNoSpec(t *testing.T, s section.Spec) {
	t.Helper()
	if got, err := section.Text(s); !errors.Is(err, api.ErrForm) || got != "" {
		t.Fatalf("Text(%s) answers %.200q, %v, and not ErrForm", show(s), got, err)
	}
	if got, ok := section.Bytes("A: b\r\n\r\nc", s); ok || got != "" {
		t.Fatalf("Bytes of %s answers %q, %v", show(s), got, ok)
	}
}

// P12.1, P12.2: the chapter's examples, and each kind of text, with and without a path; Text is the text back, What with capital letters.
func TestParse(t *testing.T) {
	long := strings.Repeat("x", 1000)
	for _, k := range []struct {
		text, back string
		spec       section.Spec
	}{
		{"1.2.mime", "1.2.MIME", section.Spec{Path: path(1, 2), What: "MIME"}},
		{"HEADER.FIELDS (To Cc)", "HEADER.FIELDS (To Cc)", section.Spec{What: "HEADER.FIELDS", Names: names("To", "Cc")}},
		{"", "", section.Spec{}},
		{"HEADER", "HEADER", section.Spec{What: "HEADER"}},
		{"text", "TEXT", section.Spec{What: "TEXT"}},
		{"hEaDeR.fIeLdS (a)", "HEADER.FIELDS (a)", section.Spec{What: "HEADER.FIELDS", Names: names("a")}},
		{"Header.Fields.Not (a B a)", "HEADER.FIELDS.NOT (a B a)", section.Spec{What: "HEADER.FIELDS.NOT", Names: names("a", "B", "a")}},
		{"1", "1", section.Spec{Path: path(1)}},
		{"999.1.10.100", "999.1.10.100", section.Spec{Path: path(999, 1, 10, 100)}},
		{"3.MIME", "3.MIME", section.Spec{Path: path(3), What: "MIME"}},
		{"3.header", "3.HEADER", section.Spec{Path: path(3), What: "HEADER"}},
		{"3.4.Text", "3.4.TEXT", section.Spec{Path: path(3, 4), What: "TEXT"}},
		{"12.header.fields (x)", "12.HEADER.FIELDS (x)", section.Spec{Path: path(12), What: "HEADER.FIELDS", Names: names("x")}},
		{"12.header.fields.not (x y)", "12.HEADER.FIELDS.NOT (x y)", section.Spec{Path: path(12), What: "HEADER.FIELDS.NOT", Names: names("x", "y")}},
		{"HEADER.FIELDS (1 . mime [x] }~! " + long + ")", "HEADER.FIELDS (1 . mime [x] }~! " + long + ")",
			section.Spec{What: "HEADER.FIELDS", Names: names("1", ".", "mime", "[x]", "}~!", long)}},
	} {
		checkParse(t, k.text, k.spec)
		checkText(t, k.spec, k.back)
		checkParse(t, k.back, k.spec)
	}
}

// P12.1
func TestParseOfWhatIsNone(t *testing.T) {
	for _, text := range []string{
		".", "1.", "1..2", ".1", "1.2.", "0", "01", "1.0", "1.02", "1000", "1.1000", "00", "-1", "+1", "1_0", "1x", "x1", "0x1", "1 ", " 1", "1 2", "1,2", "1:2", "*",
		"18446744073709551617", "4294967297.MIME", "\u0661",
		"MIME", "mime", "MIME.1", "HEADER.1", "TEXT.1", "1.MIME.1", "1.MIME.TEXT", "1MIME", ".MIME", "1. MIME", "1.MIME ", "MIM", "1.MIM", "1.MIMEX", "FIELDS", "NOT", "BODY",
		"HEADERS", "HEADER.", "HEADER ", " HEADER", "HEADER.TEXT", "HEADER (a)", "TEXT (a)", "1.MIME (a)", "1 (a)", "1. (a)", "(a)", " (a)", " ", "TEXT\n", "TEXT\x00", "1\n",
		"HEADER.FIELDS", "HEADER.FIELDS ", "HEADER.FIELDS(a)", "HEADER.FIELDS  (a)", "HEADER.FIELDS\t(a)", "HEADER.FIELDS ()", "HEADER.FIELDS ( )", "HEADER.FIELDS (", "HEADER.FIELDS )",
		"HEADER.FIELDS a", "HEADER.FIELDS (a", "HEADER.FIELDS a)", "HEADER.FIELDS (a) ", "HEADER.FIELDS (a)b", "HEADER.FIELDS (a) (b)", "HEADER.FIELDS ((a))", "HEADER.FIELDS ( a)", "HEADER.FIELDS (a )",
		"HEADER.FIELDS (a  b)", "HEADER.FIELDS (a\tb)", "HEADER.FIELDS (a:)", "HEADER.FIELDS (\"a\")", "HEADER.FIELDS ({1})", "HEADER.FIELDS (a\\b)", "HEADER.FIELDS (\u00e9)", "HEADER.FIELDS (\xff)", "HEADER.FIELDS (a\x7f)", "HEADER.FIELDS (a\x1f)",
		"HEADER.FIELDS.NOT", "HEADER.FIELDS.NOT ()", "HEADER.FIELDS.NOT(a)", "HEADER.FIELDS NOT (a)", "HEADER.NOT (a)", "HEADER.FIELDS.NOTE (a)", "HEADER.FIELDS. (a)", "FIELDS (a)",
		// Letters that a library takes for I, K or S.
		"1.M\u0131ME", "1.M\u0130ME", "HEADER.FIELD\u017f (a)",
	} {
		checkNoText(t, text)
	}
}

// P12.1: as many numbers and names as there may be, and one more.
func TestHowMany(t *testing.T) {
	for _, count := range []int{1, 2, 19, 20} {
		numbers := slices.Repeat(path(7), count)
		texts := slices.Repeat(names("n"), count)
		dotted := strings.Repeat("7.", count)
		listed := "(" + strings.Repeat("n ", count-1) + "n)"
		for _, k := range []struct {
			text string
			spec section.Spec
		}{
			{strings.TrimSuffix(dotted, "."), section.Spec{Path: numbers}},
			{dotted + "MIME", section.Spec{Path: numbers, What: "MIME"}},
			{"HEADER.FIELDS " + listed, section.Spec{What: "HEADER.FIELDS", Names: texts}},
			{dotted + "HEADER.FIELDS.NOT " + listed, section.Spec{Path: numbers, What: "HEADER.FIELDS.NOT", Names: texts}},
		} {
			checkParse(t, k.text, k.spec)
			checkText(t, k.spec, k.text)
		}
	}
	for _, count := range []int{21, 22, 40, 1000, 1 << 20} {
		numbers := slices.Repeat(path(7), count)
		texts := slices.Repeat(names("n"), count)
		dotted := strings.Repeat("7.", count)
		listed := "(" + strings.Repeat("n ", count-1) + "n)"
		for _, text := range []string{strings.TrimSuffix(dotted, "."), dotted + "MIME", "HEADER.FIELDS " + listed, "1.HEADER.FIELDS.NOT " + listed} {
			checkNoText(t, text)
		}
		for _, s := range []section.Spec{
			{Path: numbers},
			{Path: numbers, What: "MIME"},
			{What: "HEADER.FIELDS", Names: texts},
			{What: "HEADER.FIELDS.NOT", Names: texts},
			{Path: path(1), What: "HEADER.FIELDS", Names: texts},
		} {
			checkNoSpec(t, s)
		}
	}
}

// P12.1: every number near the bounds.
func TestNumbers(t *testing.T) {
	for n := -1; n <= 1200; n++ {
		s := section.Spec{Path: path(2, n), What: "MIME"}
		text := "2." + strconv.Itoa(n) + ".MIME"
		if n >= 1 && n <= 999 {
			checkText(t, s, text)
			checkParse(t, text, s)
		} else {
			checkNoSpec(t, s)
			checkNoText(t, text)
		}
		checkNoText(t, "2.0"+strconv.Itoa(n)+".MIME")
	}
	for _, n := range []int{math.MinInt, math.MinInt32, math.MaxInt32, math.MaxInt, 1<<32 + 1} {
		checkNoSpec(t, section.Spec{Path: path(n)})
		checkNoSpec(t, section.Spec{Path: path(1, n, 1)})
		checkNoText(t, strconv.Itoa(n))
	}
}

// P12.1
func TestTextOfWhatHasNone(t *testing.T) {
	for _, s := range []section.Spec{
		{What: "MIME"},
		{What: "mime", Path: path(1)},
		{What: "Header"},
		{What: "text"},
		{What: "HEADER.FIELDs", Names: names("a")},
		{What: "header.fields.not", Names: names("a")},
		{What: "x"},
		{What: " "},
		{What: "."},
		{What: "1"},
		{What: "1.MIME"},
		{What: "HEADER.FIELDS (a)"},
		{What: "HEADER ", Names: names("a")},
		{What: "BODY"},
		{What: "HEADER.FIELDS"},
		{What: "HEADER.FIELDS.NOT", Names: names()},
		{What: "HEADER.FIELDS", Names: names("")},
		{What: "HEADER.FIELDS", Names: names("a", "")},
		{What: "HEADER.FIELDS", Names: names("a b")},
		{What: "HEADER.FIELDS", Names: names("a", "b)")},
		{What: "HEADER.FIELDS", Names: names("a:")},
		{What: "HEADER.FIELDS", Names: names("\u00e9")},
		{What: "HEADER.FIELDS", Names: names("a\n")},
		{Names: names("a")},
		{Names: names("")},
		{What: "HEADER", Names: names("a")},
		{What: "TEXT", Names: names("a")},
		{What: "MIME", Path: path(1), Names: names("a")},
		{Path: path(1), Names: names("a")},
		{Path: path(0)},
		{Path: path(1000)},
		{Path: path(1, -1)},
	} {
		checkNoSpec(t, s)
	}
}

// The chapter's words on a section's text, said a second way: by expressions.
const (
	number   = `[1-9][0-9]?[0-9]?`
	aName    = `[!#-'*-9;-\[\]-z|-~]+`
	nameList = ` \((` + aName + `(?: ` + aName + `){0,19})\)`
)

var (
	pathForm = regexp.MustCompile(`\A` + number + `(?:\.` + number + `){0,19}\z`)
	whatForm = regexp.MustCompile(`\A(?:(` + letters("HEADER") + `|` + letters("TEXT") + `|` + letters("MIME") + `)|(` + letters("HEADER.FIELDS") + `|` + letters("HEADER.FIELDS.NOT") + `)` + nameList + `)\z`)
)

// letters is an expression of a word with letters of both kinds; those that the library has would take more letters for the same.
func letters(word string) string {
	var form strings.Builder
	for _, c := range word {
		if c == '.' {
			form.WriteString(`\.`)
		} else {
			form.WriteString("[" + string(c) + string(c+'a'-'A') + "]")
		}
	}
	return form.String()
}

// modelParse tries each place at which a path may end.
func modelParse(text string) (section.Spec, bool) {
	if text == "" {
		return section.Spec{}, true
	}
	if pathForm.MatchString(text) {
		return section.Spec{Path: modelPath(text)}, true
	}
	if s, ok := modelWhat(text); ok && s.What != "MIME" {
		return s, true
	}
	for i := range len(text) {
		if text[i] == '.' && pathForm.MatchString(text[:i]) {
			if s, ok := modelWhat(text[i+1:]); ok {
				s.Path = modelPath(text[:i])
				return s, true
			}
		}
	}
	return section.Spec{}, false
}

func modelWhat(text string) (section.Spec, bool) {
	found := whatForm.FindStringSubmatch(text)
	if found == nil {
		return section.Spec{}, false
	}
	// What matched are letters of A to Z and dots: here the library's capital letters are right.
	s := section.Spec{What: strings.ToUpper(found[1] + found[2])}
	if found[3] != "" {
		s.Names = strings.Split(found[3], " ")
	}
	return s, true
}

func modelPath(text string) []int {
	var numbers []int
	for piece := range strings.SplitSeq(text, ".") {
		n, _ := strconv.Atoi(piece)
		numbers = append(numbers, n)
	}
	return numbers
}

// modelText puts a section's words together, whatever they are: the text is the section's if it is read as the section.
func modelText(s section.Spec) (string, bool) {
	var text strings.Builder
	for i, n := range s.Path {
		if i > 0 {
			text.WriteString(".")
		}
		text.WriteString(strconv.Itoa(n))
	}
	if len(s.Path) > 0 && s.What != "" {
		text.WriteString(".")
	}
	text.WriteString(s.What)
	if len(s.Names) > 0 {
		text.WriteString(" (" + strings.Join(s.Names, " ") + ")")
	}
	read, ok := modelParse(text.String())
	return text.String(), ok && equal(read, s)
}

// checkByModel holds a text against the model, and a section that is read to P12.2: its text is read as the same.
func checkByModel(t *testing.T, text string) {
	t.Helper()
	want, ok := modelParse(text)
	if !ok {
		checkNoText(t, text)
		return
	}
	checkParse(t, text, want)
	back, inForm := modelText(want)
	if !inForm {
		t.Fatalf("the model has no text of %s", show(want))
	}
	checkText(t, want, back)
	checkParse(t, back, want)
	again, _ := section.Parse(back)
	if !section.Same(again, want) {
		t.Fatalf("Parse of Text of %s is %s", show(want), show(again))
	}
}

func checkSpecByModel(t *testing.T, s section.Spec) {
	t.Helper()
	text, ok := modelText(s)
	if !ok {
		checkNoSpec(t, s)
		return
	}
	checkText(t, s, text)
	checkParse(t, text, s)
}

// P12.1, P12.2: each byte, in each place of a text, between and instead of others.
func TestEveryByte(t *testing.T) {
	for _, sample := range []string{"", "1", "12.3", "1.MIME", "header", "Text", "2.text", "HEADER.FIELDS (a bc)", "10.header.fields.not (To x)"} {
		for b := range 256 {
			c := string([]byte{byte(b)})
			for i := range len(sample) + 1 {
				checkByModel(t, sample[:i]+c+sample[i:])
				if i < len(sample) {
					checkByModel(t, sample[:i]+c+sample[i+1:])
					checkByModel(t, sample[:i]+sample[i+1:])
				}
			}
		}
	}
	for b := range 256 {
		c := string([]byte{byte(b)})
		for _, what := range []string{"HEADER.FIELDS", "HEADER.FIELDS.NOT", "TEXT", ""} {
			for _, name := range []string{c, "a" + c, c + "a", "a" + c + "b", c + c} {
				checkSpecByModel(t, section.Spec{What: what, Names: names(name)})
				checkSpecByModel(t, section.Spec{What: what, Names: names("x", name, "y"), Path: path(1)})
			}
		}
		checkSpecByModel(t, section.Spec{What: c})
		checkSpecByModel(t, section.Spec{What: c, Path: path(1)})
		checkSpecByModel(t, section.Spec{What: "TEXT" + c})
		checkSpecByModel(t, section.Spec{What: c + "TEXT"})
	}
}

// P12.1, P12.2: all short rows of the pieces of which texts are.
func TestEveryShortText(t *testing.T) {
	pieces := []string{"1", "0", "20", "999", ".", ".", " ", "(", ")", "a", "MIME", "Text", "HEADER", "header.fields", ".NOT", ".FIELDS"}
	var longer func(text string, most int)
	longer = func(text string, most int) {
		checkByModel(t, text)
		if most == 0 {
			return
		}
		for _, piece := range pieces {
			longer(text+piece, most-1)
		}
	}
	longer("", 4)
	longer("1.", 3)
	longer("HEADER.FIELDS (", 4)
	longer("1.HEADER.FIELDS.NOT (a", 3)
}

// source is numbers that are the same each time.
type source uint32

func (s *source) next(n int) int {
	*s = *s*1664525 + 1013904223
	return int(*s>>8) % n
}

// P12.1, P12.2: texts and sections of many pieces, right ones and such that aren't.
func TestManySections(t *testing.T) {
	numbers := []int{1, 2, 9, 10, 99, 100, 998, 999, 1, 2, 3, 0, 1000, -1}
	whats := []string{"", "MIME", "HEADER", "TEXT", "HEADER.FIELDS", "HEADER.FIELDS.NOT", "HEADER.FIELDS", "HEADER.FIELDS.NOT", "mime", "Text"}
	words := []string{"To", "Cc", "a", "X-Y", "!", "~", "]", "[", "}", "'", "to", "0", ".", "", "a b", "(", "\xff", ":"}
	random := source(12)
	for range 100000 {
		var s section.Spec
		// Mostly of what is right, so that many are.
		wrong := random.next(4) / 3
		for range random.next(3) * random.next(12) {
			s.Path = append(s.Path, numbers[random.next(len(numbers)-3+3*wrong)])
		}
		s.What = whats[random.next(len(whats)-2+2*wrong)]
		if strings.HasPrefix(s.What, "HEADER.") || wrong == 1 && random.next(4) == 0 {
			for range 1 + random.next(3)*random.next(12) {
				s.Names = append(s.Names, words[random.next(len(words)-5+5*wrong)])
			}
		}
		checkSpecByModel(t, s)
		text, _ := modelText(s)
		checkByModel(t, text)
		checkByModel(t, strings.ToLower(text))
	}
}

// P12.1: great texts take a few goings through them, no more.
func TestGreatTexts(t *testing.T) {
	const size = 1 << 24
	for _, text := range []string{
		strings.Repeat("1", size), strings.Repeat("1.", size), strings.Repeat(".", size), strings.Repeat(" ", size), strings.Repeat("(", size),
		strings.Repeat("MIME", size), "1." + strings.Repeat("MIME", size), "HEADER.FIELDS " + strings.Repeat("(", size), "HEADER.FIELDS (" + strings.Repeat(" ", size) + ")",
		"HEADER.FIELDS (" + strings.Repeat("a ", size) + "a)", "HEADER.FIELDS (" + strings.Repeat("a", size), "HEADER.FIELDS (" + strings.Repeat("a", size) + ":)",
	} {
		checkNoText(t, text)
	}
	great := strings.Repeat("a", size)
	s := section.Spec{What: "HEADER.FIELDS", Names: names(great, "b", great)}
	checkParse(t, "header.fields ("+great+" b "+great+")", s)
	checkText(t, s, "HEADER.FIELDS ("+great+" b "+great+")")
	checkNoSpec(t, section.Spec{What: great})
	checkNoSpec(t, section.Spec{Path: make([]int, size)})
	checkNoSpec(t, section.Spec{What: "HEADER.FIELDS", Names: make([]string, size)})
}

// P12.1: one field changed, and they aren't the same.
func TestSame(t *testing.T) {
	specs := []section.Spec{
		{},
		{Path: path(1)},
		{Path: path(2)},
		{Path: path(1, 2)},
		{Path: path(2, 1)},
		{Path: path(1, 2, 1)},
		{Path: path(-5)},
		{What: "TEXT"},
		{What: "text"},
		{What: "whatever"},
		{What: "TEXT", Path: path(1)},
		{What: "TEXT", Names: names("a")},
		{Names: names("a")},
		{Names: names("A")},
		{Names: names("")},
		{Names: names("", "")},
		{Names: names("a", "b")},
		{Names: names("b", "a")},
		{Names: names("a b")},
		{Names: names("a", "b", "a")},
		{Path: path(1), What: "HEADER.FIELDS", Names: names("a")},
		{Path: path(1), What: "HEADER.FIELDS.NOT", Names: names("a")},
		{Path: path(2), What: "HEADER.FIELDS", Names: names("a")},
		{Path: path(1), What: "HEADER.FIELDS", Names: names("b")},
	}
	for i, a := range specs {
		for j, b := range specs {
			other := section.Spec{Path: slices.Clone(b.Path), What: strings.Clone(b.What), Names: slices.Clone(b.Names)}
			if got := section.Same(a, other); got != (i == j) {
				t.Errorf("Same(%s, %s) answers %v", show(a), show(b), got)
			}
		}
	}
	if !section.Same(section.Spec{}, section.Spec{Path: path(), Names: names()}) || !section.Same(section.Spec{Path: []int{}}, section.Spec{Names: []string{}}) {
		t.Error("empty lists aren't the same as none")
	}
}

// P12.1: what is handed in isn't changed, and what is answered is the caller's own.
func TestNothingIsShared(t *testing.T) {
	const text = "3.2.HEADER.FIELDS (b a b)"
	first, _ := section.Parse(text)
	clear(first.Path)
	clear(first.Names)
	_, _ = append(first.Path, 1), append(first.Names, "x")
	checkParse(t, text, section.Spec{Path: path(3, 2), What: "HEADER.FIELDS", Names: names("b", "a", "b")})

	numbers, texts := path(3, 2, 77), names("b", "A", "b", "77")
	for _, what := range []string{"HEADER.FIELDS", "HEADER.FIELDS.NOT", "MIME", ""} {
		for _, s := range []section.Spec{{Path: numbers[:2], What: what, Names: texts[:3]}, {Path: numbers[:2], What: what}, {What: what, Names: texts[:3]}} {
			_, _ = section.Text(s)
			_, _ = section.Bytes("A: 1\r\nB: 2\r\n\r\nx", s)
			section.Same(s, section.Spec{Path: path(3, 2), What: what, Names: names("b", "A", "b")})
			if !slices.Equal(numbers, path(3, 2, 77)) || !slices.Equal(texts, names("b", "A", "b", "77")) {
				t.Fatalf("what is handed in is changed to %v, %q", numbers, texts)
			}
		}
	}
}
