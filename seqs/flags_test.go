package seqs_test

import (
	"errors"
	"math"
	"regexp"
	"strings"
	"testing"

	"postbag/api"
	"postbag/seqs"
)

var (
	flagsForm = regexp.MustCompile(`\A\((\\([A-Za-z]+)( \\([A-Za-z]+))*)?\)\z`)
	flagForms = []*regexp.Regexp{
		regexp.MustCompile(`\A[Ss][Ee][Ee][Nn]\z`),
		regexp.MustCompile(`\A[Aa][Nn][Ss][Ww][Ee][Rr][Ee][Dd]\z`),
		regexp.MustCompile(`\A[Ff][Ll][Aa][Gg][Gg][Ee][Dd]\z`),
		regexp.MustCompile(`\A[Dd][Ee][Ll][Ee][Tt][Ee][Dd]\z`),
		regexp.MustCompile(`\A[Dd][Rr][Aa][Ff][Tt]\z`),
	}
	nameForm = regexp.MustCompile(`[A-Za-z]+`)
)

func modelFlag(name string) int {
	for i, form := range flagForms {
		if form.MatchString(name) {
			return []int{api.Seen, api.Answered, api.Flagged, api.Deleted, api.Draft}[i]
		}
	}
	return 0
}

func modelFlags(s string) (int, bool) {
	if !flagsForm.MatchString(s) {
		return 0, false
	}
	flags := 0
	for _, name := range nameForm.FindAllString(s, -1) {
		if modelFlag(name) == 0 {
			return 0, false
		}
		flags |= modelFlag(name)
	}
	return flags, true
}

func checkFlags(t *testing.T, s string) {
	t.Helper()
	want, is := modelFlags(s)
	got, err := seqs.Flags(s)
	if is && (err != nil || got != want) {
		t.Fatalf("Flags(%.200q) answers %d, %v, and not %d", s, got, err, want)
	}
	if !is && (!errors.Is(err, api.ErrForm) || got != 0) {
		t.Fatalf("Flags(%.200q) answers %d, %v, and not ErrForm", s, got, err)
	}
}

// P14.1: flags of texts, the chapter's example ahead.
func TestFlags(t *testing.T) {
	for s, want := range map[string]int{
		`(\seen)`: 1, `(\Seen)`: 1, `(\Answered)`: 2, `(\Flagged)`: 4, `(\Deleted)`: 8, `(\Draft)`: 16, `()`: 0,
		`(\SEEN)`: 1, `(\sEeN)`: 1, `(\aNSWERED)`: 2, `(\flagGED)`: 4, `(\DELETED)`: 8, `(\drAFT)`: 16,
		`(\Draft \Seen)`: 17, `(\Seen \Seen)`: 1, `(\seen \SEEN \Seen)`: 1, `(\Deleted \Seen \Deleted)`: 9,
		`(\Seen \Answered \Flagged \Deleted \Draft)`: 31, `(\draft \deleted \flagged \answered \seen)`: 31,
		"(" + strings.Repeat(`\Draft `, 1<<16) + `\Seen)`: 17,
	} {
		if got, err := seqs.Flags(s); err != nil || got != want {
			t.Errorf("Flags(%.100q) answers %d, %v", s, got, err)
		}
	}
	for _, s := range []string{
		"", "(", ")", ")(", "( )", "(())", "()()", "() ", " ()", "[]", `\Seen`, `\Seen)`, `(\Seen`, `( \Seen)`, `(\Seen )`, `(\Seen  \Draft)`, "(\\Seen\t\\Draft)", `(\Seen,\Draft)`, `(\Seen\Draft)`, "(\\Seen\n)", "(\\Seen)\r\n",
		`(Seen)`, `(\)`, `(\ Seen)`, `(\\Seen)`, `(/Seen)`, `(\See)`, `(\Seenn)`, `(\Seen\)`, `(\Recent)`, `(\Seen \Recent)`, `(\Recent \Seen)`, `(\*)`, `($Junk)`, `(seen)`, `(\answere)`, `(\Flag)`, `((\Seen))`, `(\Seen))`, `(\Seen)(`,
		"(\\\u017feen)", "(\\Se\u00e9n)", "(\\seen\x00)", "(\\\x13een)", "(|Seen)", "(\\Seen\xff)",
		"(" + strings.Repeat(`\Seen `, 1<<19) + ")", strings.Repeat("(", 1<<22), "(" + strings.Repeat(" ", 1<<22) + ")", "(" + strings.Repeat(`\`, 1<<22) + ")",
	} {
		if got, err := seqs.Flags(s); !errors.Is(err, api.ErrForm) || got != 0 {
			t.Errorf("Flags(%.100q) answers %d, %v", s, got, err)
		}
	}
}

// P14.1: all short rows of pieces, each byte in each place, each name in all letters, and many texts.
func TestFlagsAll(t *testing.T) {
	rows([]string{"(", ")", " ", `\Seen`, `\draft`, `\`, "seen", `\DELETED `}, 5, func(s string) { checkFlags(t, s) })
	for _, s := range []string{"()", `(\Seen)`, `(\Answered \Flagged)`, `(\deleted \DRAFT)`} {
		forEachByte(s, func(s string) { checkFlags(t, s) })
	}
	for _, name := range []string{"seen", "answered", "flagged", "deleted", "draft"} {
		for letters := range 1 << len(name) {
			s := []byte(name)
			for i := range s {
				s[i] -= byte(letters >> i & 1 * 32)
			}
			checkFlags(t, `(\`+string(s)+`)`)
		}
	}
	d := dice(5)
	for range 50000 {
		checkFlags(t, "("+d.row([]string{`\Seen `, `\answered `, `\FLAGGED `, `\Deleted `, `\Draft `}, 8)+d.row([]string{`\Seen`, `\DRAFT`, `\flagged`, " ", ")", `\x`}, 2)+")")
	}
}

// P14.1: flags' texts, in their order; bits beyond AllFlags aren't told.
func TestFlagsText(t *testing.T) {
	for flags, want := range map[int]string{
		0: "()", 1: `(\Seen)`, 2: `(\Answered)`, 4: `(\Flagged)`, 8: `(\Deleted)`, 16: `(\Draft)`, 9: `(\Seen \Deleted)`, 17: `(\Seen \Draft)`, 6: `(\Answered \Flagged)`,
		31: `(\Seen \Answered \Flagged \Deleted \Draft)`, 32: "()", 33: `(\Seen)`, -1: `(\Seen \Answered \Flagged \Deleted \Draft)`, -32: "()", -31: `(\Seen)`, math.MaxInt - 31: "()", math.MinInt: "()", math.MinInt + 16: `(\Draft)`,
	} {
		if got := seqs.FlagsText(flags); got != want {
			t.Errorf("FlagsText(%d) answers %q", flags, got)
		}
	}
	for flags := -100; flags < 200; flags++ {
		s := seqs.FlagsText(flags)
		if got, err := seqs.Flags(s); err != nil || got != flags&31 {
			t.Errorf("Flags(%q) answers %d, %v, and not %d", s, got, err, flags&31)
		}
	}
}

// modelApply goes bit by bit.
func modelApply(flags, how, with int) int {
	if how < 0 || how > 2 {
		return flags
	}
	answer := 0
	for bit := 1; bit < 32; bit *= 2 {
		had, named := flags&bit == bit, with&bit == bit
		if how == 0 && named || how == 1 && (had || named) || how == 2 && had && !named {
			answer += bit
		}
	}
	return answer
}

// P14.1: flags set, added and removed; of other ways they stay.
func TestApply(t *testing.T) {
	for _, k := range []struct{ flags, how, with, want int }{
		{3, api.HowSet, 5, 5}, {3, api.HowAdd, 5, 7}, {3, api.HowRemove, 5, 2},
		{31, api.HowSet, 0, 0}, {31, api.HowAdd, 0, 31}, {31, api.HowRemove, 0, 31}, {31, api.HowRemove, 31, 0}, {0, api.HowRemove, 31, 0}, {0, api.HowAdd, 31, 31},
		{3, -1, 5, 3}, {3, 3, 5, 3}, {3, math.MaxInt, 5, 3}, {3, math.MinInt, 5, 3}, {100, 3, 5, 100}, {-1, 9, 5, -1},
		{3, api.HowSet, 37, 5}, {35, api.HowAdd, 68, 7}, {35, api.HowRemove, 1, 2}, {3, api.HowRemove, 33, 2}, {-1, api.HowRemove, 1, 30}, {0, api.HowSet, -1, 31}, {0, api.HowAdd, math.MinInt, 0},
	} {
		if got := seqs.Apply(k.flags, k.how, k.with); got != k.want {
			t.Errorf("Apply(%d, %d, %d) answers %d", k.flags, k.how, k.with, got)
		}
	}
	for how := -3; how < 6; how++ {
		for flags := -40; flags < 70; flags++ {
			for with := -40; with < 70; with++ {
				if got, want := seqs.Apply(flags, how, with), modelApply(flags, how, with); got != want {
					t.Fatalf("Apply(%d, %d, %d) answers %d, and not %d", flags, how, with, got, want)
				}
			}
		}
	}
}
