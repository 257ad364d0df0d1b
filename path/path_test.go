package path_test

import (
	"math/rand"
	"strings"
	"testing"

	"postbag/api"
	"postbag/path"
)

var (
	longLocal  = strings.Repeat("l", api.MaxLocal)
	longDomain = strings.Repeat("d", api.MaxDomain)
)

// modelPath goes by the chapter's words alone: every place where the "@" might stand is asked.
func modelPath(s string) (p api.Path, is bool) {
	if s == "<>" {
		return api.Path{}, true
	}
	for i := range len(s) {
		if i > 0 && s[0] == '<' && s[i] == '@' && s[len(s)-1] == '>' && modelLocal(s[1:i]) && modelDomain(s[i+1:len(s)-1]) {
			return api.Path{Local: s[1:i], Domain: s[i+1 : len(s)-1]}, true
		}
	}
	return api.Path{}, false
}

// modelTake asks every beginning of the text.
func modelTake(s string) (p api.Path, rest string, is bool) {
	for i := range len(s) + 1 {
		if p, is := modelPath(s[:i]); is {
			return p, s[i:], true
		}
	}
	return api.Path{}, "", false
}

// P8.1: the chapter's examples.
func TestExamples(t *testing.T) {
	if p, err := path.Parse("<a.b@c-d.e>"); err != nil || p != (api.Path{Local: "a.b", Domain: "c-d.e"}) {
		t.Errorf("Parse answers %v, %v", p, err)
	}
	if p, err := path.Parse("<a..b@c>"); err != api.ErrForm || p != (api.Path{}) {
		t.Errorf("Parse of two dots answers %v, %v", p, err)
	}
	if p, rest, err := path.Take("<> SIZE=1"); err != nil || p != (api.Path{}) || rest != " SIZE=1" {
		t.Errorf("Take answers %v, %q, %v", p, rest, err)
	}
}

// P8.1, P8.2
func TestPaths(t *testing.T) {
	for _, k := range []struct {
		text, local, domain string
	}{
		{"<>", "", ""},
		{"<a@b>", "a", "b"},
		{"<A@B>", "A", "B"},
		{"<Ann.Lee@Host.Example>", "Ann.Lee", "Host.Example"},
		{"<-@b>", "-", "b"},
		{"<{|}~@1.2>", "{|}~", "1.2"},
		{"<" + longLocal + "@" + longDomain + ">", longLocal, longDomain},
	} {
		p := api.Path{Local: k.local, Domain: k.domain}
		if got, err := path.Parse(k.text); err != nil || got != p {
			t.Errorf("Parse(%q) answers %v, %v", k.text, got, err)
		}
		if got, err := path.Text(p); err != nil || got != k.text {
			t.Errorf("Text(%v) answers %q, %v", p, got, err)
		}
		if got, err := path.Bare(p); err != nil || got != k.text[1:len(k.text)-1] {
			t.Errorf("Bare(%v) answers %q, %v", p, got, err)
		}
		checkText(t, k.text)
		checkPath(t, p)
	}
}

// P8.1
func TestParseRefuses(t *testing.T) {
	for _, text := range []string{
		"",
		"<",
		">",
		"@",
		"a@b",
		"<a@b",
		"a@b>",
		"<@>",
		"<a>",
		"<a@>",
		"<@b>",
		"< >",
		"<> ",
		" <>",
		"<>>",
		"<<>>",
		"<<a@b>>",
		"<a@b>x",
		"<a@b>>",
		"<a@b><c@d>",
		"x<a@b>",
		" <a@b>",
		"< a@b>",
		"<a@b >",
		"<a @b>",
		"<a@ b>",
		"<a@b>\r\n",
		"<a@b@c>",
		"<a@@b>",
		"<@a:b@c>",
		"<a.@b>",
		"<.a@b>",
		"<a..b@c>",
		"<a@b.>",
		"<a@.b>",
		"<a@b..c>",
		"<a@-b>",
		"<a@b->",
		"<a@b_c>",
		"<a@[1.2.3.4]>",
		`<"a"@b>`,
		`<"a b"@c>`,
		"<é@b>",
		"<a@é>",
		"<a@b\x00>",
		"><",
		">a@b<",
		"<" + longLocal + "l@b>",
		"<a@" + longDomain + "d>",
		"<" + longDomain + "@" + longLocal + ">",
		"<" + strings.Repeat("a", 1<<22) + "@b>",
		"<a@" + strings.Repeat("b.", 1<<22) + "b>",
		strings.Repeat("<", 1<<20),
		"<" + strings.Repeat("@", 1<<20) + ">",
	} {
		if got, err := path.Parse(text); err != api.ErrForm || got != (api.Path{}) {
			t.Errorf("Parse(%.120q) answers %v, %v", text, got, err)
		}
	}
}

// P8.1: what is behind a path may be anything, another path or one more ">" too.
func TestTake(t *testing.T) {
	great := strings.Repeat("<a@b> ", 1<<18)
	for _, k := range []struct {
		text, local, domain, rest string
	}{
		{"<>", "", "", ""},
		{"<a@b>", "a", "b", ""},
		{"<a@b> SIZE=1", "a", "b", " SIZE=1"},
		{"<a@b>c", "a", "b", "c"},
		{"<a@b>>", "a", "b", ">"},
		{"<>>", "", "", ">"},
		{"<><a@b>", "", "", "<a@b>"},
		{"<a@b><>", "a", "b", "<>"},
		{"<a@b>@c>", "a", "b", "@c>"},
		{"<a@b>\r\n\x00\xff", "a", "b", "\r\n\x00\xff"},
		{"<" + longLocal + "@" + longDomain + ">" + great, longLocal, longDomain, great},
	} {
		p, rest, err := path.Take(k.text)
		if err != nil || p != (api.Path{Local: k.local, Domain: k.domain}) || rest != k.rest {
			t.Errorf("Take(%.120q) answers %v, %.120q, %v", k.text, p, rest, err)
		}
	}
}

// P8.1: a path further on is none at the beginning.
func TestTakeRefuses(t *testing.T) {
	for _, text := range []string{
		"",
		"x",
		"<",
		">",
		"<a@b",
		" <a@b>",
		"x<>",
		"a@b> <c@d>",
		"<<a@b>",
		"<a><b@c>",
		"<a@><b@c>",
		"<@b>c@d>",
		"<@><>",
		"< ><>",
		"<a@b@c> x",
		"<a@b x> y",
		"<a@b\n>",
		"<" + longLocal + "l@b> x",
		"<a@" + longDomain + "d> x",
		strings.Repeat("<", 1<<20) + ">",
	} {
		if p, rest, err := path.Take(text); err != api.ErrForm || p != (api.Path{}) || rest != "" {
			t.Errorf("Take(%.120q) answers %v, %.120q, %v", text, p, rest, err)
		}
	}
}

// P8.1, P8.2
func TestEveryShortText(t *testing.T) {
	for text := range shortTexts("<>@.-aZ ", 7) {
		checkText(t, text)
	}
	for text := range shortTexts("<>@.-a9_", 4) {
		for _, long := range []string{"<" + text, "<a" + text + ">", "<a@" + text + "> x", "<a@b" + text, "<" + text + "@b>"} {
			checkText(t, long)
		}
	}
}

// P8.1, P8.2: a right text with any byte changed, put in, or taken away, at every place.
func TestNearRightTexts(t *testing.T) {
	for _, right := range []string{"<>", "<a@b>", "<a.b@c-d.e> x"} {
		for i := range len(right) + 1 {
			for b := range 256 {
				one := string([]byte{byte(b)})
				checkText(t, right[:i]+one+right[i:])
				if i < len(right) {
					checkText(t, right[:i]+one+right[i+1:])
				}
			}
			if i < len(right) {
				checkText(t, right[:i]+right[i+1:])
			}
		}
	}
}

// P8.1, P8.2: lengths around the limits, in both parts at once.
func TestLengths(t *testing.T) {
	for _, local := range []int{0, 1, 63, 64, 65, 100, 5000} {
		for _, domain := range []int{0, 1, 64, 65, 99, 100, 101, 5000} {
			p := api.Path{Local: strings.Repeat("l", local), Domain: strings.Repeat("d", domain)}
			checkPath(t, p)
			checkText(t, "<"+p.Local+"@"+p.Domain+">")
			checkText(t, "<"+p.Local+"@"+p.Domain+"> x")
		}
	}
}

// P8.1, P8.2
func TestEveryShortPath(t *testing.T) {
	for local := range shortTexts("a.-_@>", 3) {
		for domain := range shortTexts("a.-_@>", 3) {
			checkPath(t, api.Path{Local: local, Domain: domain})
		}
	}
}

// P8.1: one empty part alone, parts that are right in each other's place, brackets within.
func TestTextRefuses(t *testing.T) {
	for _, p := range []api.Path{
		{Local: "a"},
		{Domain: "b"},
		{Local: "<a", Domain: "b>"},
		{Local: "a@b", Domain: "c"},
		{Local: "a", Domain: "b@c"},
		{Local: "a", Domain: "b_c"},
		{Local: "a..b", Domain: "c"},
		{Local: "a", Domain: "b..c"},
		{Local: " ", Domain: " "},
		{Local: "a", Domain: "b\n"},
		{Local: "é", Domain: "b"},
		{Local: longLocal + "l", Domain: "b"},
		{Local: "a", Domain: longDomain + "d"},
		{Local: strings.Repeat("a", 1<<22), Domain: strings.Repeat("b", 1<<22)},
	} {
		if got, err := path.Text(p); err != api.ErrForm || got != "" {
			t.Errorf("Text(%.120v) answers %.120q, %v", p, got, err)
		}
		if got, err := path.Bare(p); err != api.ErrForm || got != "" {
			t.Errorf("Bare(%.120v) answers %.120q, %v", p, got, err)
		}
	}
}

// P8.1: the domains' letters may be capital or small, the local parts' may not; paths that aren't in form are asked likewise.
func TestSame(t *testing.T) {
	for _, k := range []struct {
		aLocal, aDomain, bLocal, bDomain string
		same                             bool
	}{
		{"", "", "", "", true},
		{"a", "b", "a", "b", true},
		{"a", "b", "a", "B", true},
		{"a", "B.c-D.E1", "a", "b.C-d.e1", true},
		{"A", "HOST", "A", "host", true},
		{"A", "b", "a", "b", false},
		{"a", "b", "A", "B", false},
		{"ann", "host", "anN", "host", false},
		{"a", "b", "c", "b", false},
		{"a", "b", "a", "c", false},
		{"a", "b", "a", "b.c", false},
		{"a", "b", "a", "", false},
		{"a", "b", "", "b", false},
		{"a", "b", "", "", false},
		{"a", "b", "b", "a", false},
		{"ab", "", "a", "b", false},
		{"a", "bc", "ab", "c", false},
		{"a", "b", "a", "b ", false},
		{"a b", "<C>", "a b", "<c>", true},
		{"é", "\xffA\x00", "é", "\xffa\x00", true},
		{"é", "É", "é", "é", false},
		{"a", "\u212a", "a", "k", false},
		{"a", "\u017f", "a", "s", false},
		{"a", "\xff", "a", "\xfe", false},
		{"a", "\xff", "a", "\ufffd", false},
		{longLocal + longLocal, longDomain + longDomain, longLocal + longLocal, strings.ToUpper(longDomain + longDomain), true},
		{longLocal, longDomain + longDomain, longLocal, longDomain + longDomain + "d", false},
	} {
		a, b := api.Path{Local: k.aLocal, Domain: k.aDomain}, api.Path{Local: k.bLocal, Domain: k.bDomain}
		if got := path.Same(a, b); got != k.same {
			t.Errorf("Same(%q, %q) answers %v", a, b, got)
		}
		if got := path.Same(b, a); got != k.same {
			t.Errorf("Same(%q, %q) answers %v", b, a, got)
		}
	}
}

// P8.1: every two bytes, in either part, at every place of it.
func TestSameOfEveryTwoBytes(t *testing.T) {
	for x := range 256 {
		for y := range 256 {
			capital, small := min(x, y), max(x, y)
			pair := capital >= 'A' && capital <= 'Z' && small == capital+32
			for _, around := range [][2]string{{"", ""}, {"a", "b"}} {
				a := around[0] + string([]byte{byte(x)}) + around[1]
				b := around[0] + string([]byte{byte(y)}) + around[1]
				if got := path.Same(api.Path{Local: "l", Domain: a}, api.Path{Local: "l", Domain: b}); got != (x == y || pair) {
					t.Errorf("Same of domains %q, %q answers %v", a, b, got)
				}
				if got := path.Same(api.Path{Local: a, Domain: "d"}, api.Path{Local: b, Domain: "d"}); got != (x == y) {
					t.Errorf("Same of local parts %q, %q answers %v", a, b, got)
				}
			}
		}
	}
}

// P8.1, P8.2: rows of pieces that stand in paths, by chance.
func TestTextsByChance(t *testing.T) {
	pieces := []string{"<", "<", ">", ">", "@", "@", ".", "-", "a", "Z", "0", "_", "~", " ", "host", "c-d", longLocal, longDomain, longDomain[:37], "\xff", "é"}
	chance := rand.New(rand.NewSource(8))
	for range 200000 {
		text := "<"
		for range chance.Intn(9) {
			text += pieces[chance.Intn(len(pieces))]
		}
		checkText(t, text)
	}
}

// checkText holds Parse and Take against the models, and what Parse takes against what Text writes.
func checkText(t *testing.T, text string) {
	t.Helper()
	p, rest, err := path.Take(text)
	wantP, wantRest, taken := modelTake(text)
	if p != wantP || rest != wantRest || err != formError(taken) {
		t.Fatalf("Take(%q) answers %v, %q, %v, not %v, %q", text, p, rest, err, wantP, wantRest)
	}
	p, err = path.Parse(text)
	wantP, parsed := modelPath(text)
	if p != wantP || err != formError(parsed) {
		t.Fatalf("Parse(%q) answers %v, %v, not %v", text, p, err, wantP)
	}
	if err != nil {
		return
	}
	if again, err := path.Text(p); err != nil || again != text {
		t.Fatalf("Text of Parse of %q answers %q, %v", text, again, err)
	}
}

// checkPath holds Text and Bare against the model, and what Text writes against what Parse takes.
func checkPath(t *testing.T, p api.Path) {
	t.Helper()
	nobody := p.Local == "" && p.Domain == ""
	right := nobody || modelLocal(p.Local) && modelDomain(p.Domain)
	wantText, wantBare := "", ""
	if nobody {
		wantText = "<>"
	} else if right {
		wantText, wantBare = "<"+p.Local+"@"+p.Domain+">", p.Local+"@"+p.Domain
	}
	text, err := path.Text(p)
	if text != wantText || err != formError(right) {
		t.Fatalf("Text(%q) answers %q, %v", p, text, err)
	}
	bare, err := path.Bare(p)
	if bare != wantBare || err != formError(right) {
		t.Fatalf("Bare(%q) answers %q, %v", p, bare, err)
	}
	if !right {
		return
	}
	if again, err := path.Parse(text); err != nil || again != p {
		t.Fatalf("Parse of Text of %q answers %q, %v", p, again, err)
	}
}

func formError(inForm bool) error {
	if inForm {
		return nil
	}
	return api.ErrForm
}
