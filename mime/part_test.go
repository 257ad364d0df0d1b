package mime_test

import (
	"math"
	"slices"
	"strconv"
	"strings"
	"testing"

	"postbag/api"
	"postbag/mime"
)

// equal says whether parts are the same by what stands in them, list by list.
func equal(a, b api.Part) bool {
	texts := func(p api.Part) [5]string { return [5]string{p.Type, p.Sub, p.Id, p.Desc, p.Enc} }
	numbers := func(p api.Part) [4]int { return [4]int{p.At, p.Body, p.End, p.Lines} }
	if texts(a) != texts(b) || numbers(a) != numbers(b) || len(a.Params) != len(b.Params) || len(a.Kids) != len(b.Kids) {
		return false
	}
	for i := range a.Params {
		if a.Params[i] != b.Params[i] {
			return false
		}
	}
	for i := range a.Kids {
		if !equal(a.Kids[i], b.Kids[i]) {
			return false
		}
	}
	return true
}

// P10.1
func TestQuote(t *testing.T) {
	for _, k := range []struct{ text, quoted string }{
		{"", `""`},
		{"abc", `"abc"`},
		{" a b ", `" a b "`},
		{"~!", `"~!"`},
		{`"`, `"\""`},
		{`\`, `"\\"`},
		{`a"\b\"`, `"a\"\\b\\\""`},
		{"NIL", `"NIL"`},
		{"a\tb", "{3}\r\na\tb"},
		{"\r\n", "{2}\r\n\r\n"},
		{"\x00", "{1}\r\n\x00"},
		{"\x1f", "{1}\r\n\x1f"},
		{"\x7f", "{1}\r\n\x7f"},
		{"\x80\xff", "{2}\r\n\x80\xff"},
		{"\u00e9\"\\", "{4}\r\n\u00e9\"\\"},
		{strings.Repeat("\n", 1000), "{1000}\r\n" + strings.Repeat("\n", 1000)},
		{strings.Repeat(`"`, 1<<20), `"` + strings.Repeat(`\"`, 1<<20) + `"`},
	} {
		if got := mime.Quote(k.text); got != k.quoted {
			t.Errorf("Quote(%.20q) answers %.40q", k.text, got)
		}
	}
	for b := range 256 {
		c := string([]byte{byte(b)})
		for _, text := range []string{c, "a" + c, c + "a", "a" + c + `"`, c + c} {
			want := "{" + strconv.Itoa(len(text)) + "}\r\n" + text
			if b >= 32 && b <= 126 {
				want = `"` + strings.ReplaceAll(strings.ReplaceAll(text, `\`, `\\`), `"`, `\"`) + `"`
			}
			if got := mime.Quote(text); got != want {
				t.Errorf("Quote(%q) answers %q", text, got)
			}
		}
	}
}

// P10.1: of parts that Parse makes, and of others.
func TestText(t *testing.T) {
	plain := api.Part{Type: "text", Sub: "plain", Enc: "7bit", Body: 3, End: 7, Lines: 1}
	image := api.Part{Type: "image", Sub: "png", Enc: "base64", Params: params("a", "b c", "d", ""), Id: "<i>", Desc: "x\"y", Body: 10, End: 30, Lines: 9}
	const plainText = `("text" "plain" NIL NIL NIL "7bit" 4 1)`
	const imageText = `("image" "png" ("a" "b c" "d" "") "<i>" "x\"y" "base64" 20)`
	for _, k := range []struct {
		part api.Part
		text string
	}{
		{plain, plainText},
		{image, imageText},
		{mime.Parse("\nabc\n"), plainText},
		{api.Part{Sub: "mixed", Kids: []api.Part{plain}}, `(` + plainText + ` "mixed")`},
		{api.Part{Type: "multipart", Sub: "mixed", Params: params("boundary", "b"), Id: "i", Kids: []api.Part{plain, image}}, `(` + plainText + imageText + ` "mixed")`},
		{api.Part{Type: "text", Sub: "a\"b", Lines: 7, Kids: []api.Part{{Sub: "\n", Kids: []api.Part{image}}, plain}}, `((` + imageText + " {1}\r\n\n)" + plainText + ` "a\"b")`},
		{api.Part{}, `("" "" NIL NIL NIL "" 0)`},
		{api.Part{Params: []api.Param{}, Kids: []api.Part{}}, `("" "" NIL NIL NIL "" 0)`},
		{api.Part{Type: "TEXT", Lines: 2}, `("TEXT" "" NIL NIL NIL "" 0)`},
		{api.Part{Type: "multipart", Sub: "mixed", Params: params("boundary", "b")}, `("multipart" "mixed" ("boundary" "b") NIL NIL "" 0)`},
		{api.Part{Type: "text", Params: params("", ""), Id: "\r", Desc: "\u00e9", Enc: "\t", At: 5, Body: 0, End: math.MaxInt, Lines: -1},
			"(\"text\" \"\" (\"\" \"\") {1}\r\n\r {2}\r\n\u00e9 {1}\r\n\t " + strconv.Itoa(math.MaxInt) + " -1)"},
		{api.Part{Body: 5, End: 3}, `("" "" NIL NIL NIL "" -2)`},
	} {
		if got := mime.Text(k.part); got != k.text {
			t.Errorf("Text answers %q, and not %q", got, k.text)
		}
	}
}

// tree is a part with kids, some of which have kids: each is told apart by its Id.
func tree() api.Part {
	leaf := func(id string) api.Part { return api.Part{Id: id, Params: params("p", id)} }
	return api.Part{Id: "0", Params: params("p", "0", "q", ""), Kids: []api.Part{
		leaf("1"),
		{Id: "2", Kids: []api.Part{leaf("2.1"), {Id: "2.2", Kids: []api.Part{leaf("2.2.1")}}, leaf("2.3")}},
		leaf("3"),
	}}
}

// P10.1
func TestFind(t *testing.T) {
	single := api.Part{Id: "single", Type: "text"}
	for _, k := range []struct {
		part api.Part
		path []int
		id   string
	}{
		{tree(), nil, "0"},
		{tree(), []int{}, "0"},
		{tree(), []int{1}, "1"},
		{tree(), []int{2}, "2"},
		{tree(), []int{3}, "3"},
		{tree(), []int{2, 1}, "2.1"},
		{tree(), []int{2, 2}, "2.2"},
		{tree(), []int{2, 2, 1}, "2.2.1"},
		{tree(), []int{2, 3}, "2.3"},
		{single, nil, "single"},
		{single, []int{1}, "single"},
	} {
		got, ok := mime.Find(k.part, k.path)
		if !ok || got.Id != k.id {
			t.Errorf("Find at %v answers %q, %v", k.path, got.Id, ok)
		}
	}
	for _, k := range []struct {
		part api.Part
		path []int
	}{
		{tree(), []int{0}},
		{tree(), []int{-1}},
		{tree(), []int{4}},
		{tree(), []int{math.MaxInt}},
		{tree(), []int{math.MinInt}},
		{tree(), []int{1, 1}},
		{tree(), []int{3, 1}},
		{tree(), []int{2, 0}},
		{tree(), []int{2, 4}},
		{tree(), []int{2, 1, 1}},
		{tree(), []int{2, 2, 1, 1}},
		{tree(), []int{2, 2, 2}},
		{tree(), []int{4, 1}},
		{single, []int{0}},
		{single, []int{2}},
		{single, []int{-1}},
		{single, []int{1, 1}},
		{single, []int{1, 2}},
	} {
		if got, ok := mime.Find(k.part, k.path); ok || !equal(got, api.Part{}) {
			t.Errorf("Find at %v answers %q, %v", k.path, got.Id, ok)
		}
	}
	if got, ok := mime.Find(tree(), []int{2}); !ok || !equal(got, tree().Kids[1]) {
		t.Errorf("Find answers %+v", got)
	}
}

// P10.1: what Find answers shares no list with what was handed in.
func TestFindSharesNothing(t *testing.T) {
	for _, path := range [][]int{nil, {2}, {2, 2}} {
		given := tree()
		found, ok := mime.Find(given, path)
		if !ok || !equal(given, tree()) {
			t.Fatalf("Find at %v changed what it was handed", path)
		}
		spoil(&found)
		if !equal(given, tree()) {
			t.Errorf("what Find at %v answers shares memory with what it was handed", path)
		}
	}
	single := api.Part{Params: params("a", "b")}
	found, _ := mime.Find(single, []int{1})
	spoil(&found)
	if single.Params[0].Name != "a" {
		t.Errorf("what Find answers of a part without kids shares memory with it")
	}
}

func spoil(p *api.Part) {
	for i := range p.Params {
		p.Params[i] = api.Param{Name: "spoiled"}
	}
	for i := range p.Kids {
		spoil(&p.Kids[i])
		p.Kids[i].Id = "spoiled"
	}
	_ = append(p.Kids, api.Part{})
}

// P10.1
func TestCount(t *testing.T) {
	for _, k := range []struct {
		part  api.Part
		count int
	}{
		{api.Part{}, 1},
		{api.Part{Kids: []api.Part{}}, 1},
		{tree(), 8},
		{tree().Kids[1], 5},
		{api.Part{Kids: make([]api.Part, 1<<18)}, 1<<18 + 1},
	} {
		if got := mime.Count(k.part); got != k.count {
			t.Errorf("Count answers %d, and not %d", got, k.count)
		}
	}
}

// P10.1: one field changed, of the part itself or of a kid's kid, and they aren't the same.
func TestSame(t *testing.T) {
	changes := []func(p *api.Part){
		func(p *api.Part) { p.Type = "x" },
		func(p *api.Part) { p.Sub = "x" },
		func(p *api.Part) { p.Params = append(slices.Clone(p.Params), api.Param{}) },
		func(p *api.Part) { p.Params = params("p", "x") },
		func(p *api.Part) { p.Params = params("x", "2.2.1") },
		func(p *api.Part) { p.Id += "x" },
		func(p *api.Part) { p.Desc = "x" },
		func(p *api.Part) { p.Enc = "x" },
		func(p *api.Part) { p.At = 1 },
		func(p *api.Part) { p.Body = 1 },
		func(p *api.Part) { p.End = 1 },
		func(p *api.Part) { p.Lines = 1 },
		func(p *api.Part) { p.Kids = append(slices.Clone(p.Kids), api.Part{}) },
	}
	for i, change := range changes {
		outer, inner := tree(), tree()
		change(&outer)
		change(&inner.Kids[1].Kids[1].Kids[0])
		for _, other := range []api.Part{outer, inner} {
			if mime.Same(tree(), other) || mime.Same(other, tree()) || !mime.Same(other, other) {
				t.Errorf("change %d isn't seen", i)
			}
		}
	}
	less := tree()
	less.Kids = less.Kids[:2]
	turned := tree()
	turned.Kids[0], turned.Kids[2] = turned.Kids[2], turned.Kids[0]
	if mime.Same(less, tree()) || mime.Same(tree(), less) || mime.Same(turned, tree()) {
		t.Errorf("kids that aren't there, or elsewhere, aren't seen")
	}
	if !mime.Same(tree(), tree()) || !mime.Same(api.Part{}, api.Part{}) {
		t.Errorf("parts aren't the same as themselves")
	}
	if !mime.Same(api.Part{Params: []api.Param{}, Kids: []api.Part{}}, api.Part{}) {
		t.Errorf("empty lists aren't the same as none")
	}
	if mime.Same(api.Part{Type: "a"}, api.Part{Type: "A"}) {
		t.Errorf("capital letters are the same as small ones")
	}
}

// P10.1: parts that are in as many others as there may be.
func TestDeepParts(t *testing.T) {
	const levels = 1 << 16
	p := api.Part{Type: "text"}
	for range levels - 1 {
		p = api.Part{Sub: "x", Kids: []api.Part{p}}
	}
	if got := mime.Count(p); got != levels {
		t.Errorf("Count answers %d", got)
	}
	want := strings.Repeat("(", levels-1) + `("text" "" NIL NIL NIL "" 0 0)` + strings.Repeat(` "x")`, levels-1)
	if mime.Text(p) != want {
		t.Errorf("Text answers another text")
	}
	found, ok := mime.Find(p, slices.Repeat([]int{1}, levels-1))
	if !ok || found.Type != "text" {
		t.Errorf("Find answers %+v, %v", found, ok)
	}
	if _, ok := mime.Find(p, slices.Repeat([]int{1}, levels)); ok {
		t.Errorf("Find finds more levels than there are")
	}
	whole, ok := mime.Find(p, nil)
	if !ok || !mime.Same(p, whole) {
		t.Errorf("Find of no path answers another part")
	}
	found.Type = "other"
	other := found
	for range levels - 1 {
		other = api.Part{Sub: "x", Kids: []api.Part{other}}
	}
	if mime.Same(p, other) {
		t.Errorf("Same doesn't see the innermost part")
	}
}
