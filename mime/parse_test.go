package mime_test

import (
	"fmt"
	"regexp"
	"strconv"
	"strings"
	"testing"

	"postbag/api"
	"postbag/header"
	"postbag/lines"
	"postbag/mime"
)

// tell is a part on one line: where it stands, its type, its lines, its kids.
func tell(p api.Part) string {
	text := fmt.Sprintf("%d-%d-%d %s/%s%q %d", p.At, p.Body, p.End, p.Type, p.Sub, p.Params, p.Lines)
	for _, kid := range p.Kids {
		text += " (" + tell(kid) + ")"
	}
	return text
}

// P10.1: what a part's own header says of it.
func TestParseOfHeaders(t *testing.T) {
	many := strings.Repeat("A:b\n", api.MaxFields-1)
	for _, k := range []struct {
		message string
		part    api.Part
	}{
		{"", api.Part{Type: "text", Sub: "plain", Enc: "7bit"}},
		{"\nabc\n", api.Part{Type: "text", Sub: "plain", Enc: "7bit", Body: 1, End: 5, Lines: 1}},
		{"A: b\r\n\r\none\r\ntwo", api.Part{Type: "text", Sub: "plain", Enc: "7bit", Body: 8, End: 16, Lines: 2}},
		{"A: b\r\n", api.Part{Type: "text", Sub: "plain", Enc: "7bit", Body: 6, End: 6}},
		{"content-TYPE: Text/HTML; Charset=Utf-8\n\n\n\n", api.Part{Type: "text", Sub: "html", Params: params("charset", "Utf-8"), Enc: "7bit", Body: 40, End: 42, Lines: 2}},
		{"Content-Type: image/\n png;\n\ta=\"b\n c\"\n\n", api.Part{Type: "image", Sub: "png", Params: params("a", "b c"), Enc: "7bit", Body: 38, End: 38}},

		// The first field of a name is the one that counts, even if it isn't in form.
		{"Content-Type: a/b\nContent-Type: c/d\n\n", api.Part{Type: "a", Sub: "b", Enc: "7bit", Body: 37, End: 37}},
		{"Content-Type: a\nContent-Type: c/d\n\n", api.Part{Type: "text", Sub: "plain", Enc: "7bit", Body: 35, End: 35}},
		{"Content-Type:\nContent-Type: c/d\n\n", api.Part{Type: "text", Sub: "plain", Enc: "7bit", Body: 33, End: 33}},
		{"Content-Type: multipart/mixed; boundary\n\n--\n", api.Part{Type: "text", Sub: "plain", Enc: "7bit", Body: 41, End: 44, Lines: 1}},
		{"\nContent-Type: a/b\n\n", api.Part{Type: "text", Sub: "plain", Enc: "7bit", Body: 1, End: 20, Lines: 2}},

		{"Content-ID: <A@b>\nContent-Description: Two  Words\nContent-Transfer-Encoding: BASE64\n\n", api.Part{Type: "text", Sub: "plain", Id: "<A@b>", Desc: "Two  Words", Enc: "base64", Body: 85, End: 85}},
		{"Content-ID: a\nContent-ID: b\nContent-Description: c\nContent-Description: d\nContent-Transfer-Encoding: e\nContent-Transfer-Encoding: f\n\n", api.Part{Type: "text", Sub: "plain", Id: "a", Desc: "c", Enc: "e", Body: 133, End: 133}},
		{"Content-ID:\nContent-Description: \nContent-Transfer-Encoding: \t\n\n", api.Part{Type: "text", Sub: "plain", Enc: "7bit", Body: 64, End: 64}},
		{"Content-Transfer-Encoding:\nContent-Transfer-Encoding: x\n\n", api.Part{Type: "text", Sub: "plain", Enc: "7bit", Body: 57, End: 57}},
		{"Content-Transfer-Encoding: \xffA\u00c4\xc3\n\n", api.Part{Type: "text", Sub: "plain", Enc: "\xffa\u00c4\xc3", Body: 34, End: 34}},

		// Where there are more fields than layer 9 tells there is none.
		{many + "Content-Type: a/b\n\n", api.Part{Type: "a", Sub: "b", Enc: "7bit", Body: len(many) + 19, End: len(many) + 19}},
		{many + "Content-Type: a/b\nA:b\n\nx", api.Part{Type: "text", Sub: "plain", Enc: "7bit", Body: len(many) + 23, End: len(many) + 24, Lines: 1}},

		// A multipart that is none is of another type; the rest of it stays.
		{"Content-Type: multipart/mixed; a=b\nContent-ID: c\nContent-Transfer-Encoding: 8BIT\n\n--\n--b\n", api.Part{Type: "application", Sub: "octet-stream", Id: "c", Enc: "8bit", Body: 82, End: 89, Lines: 2}},
		{"Content-Type: message/rfc822\n\nContent-Type: a/b\n\n", api.Part{Type: "message", Sub: "rfc822", Enc: "7bit", Body: 30, End: 49, Lines: 2}},
		{"Content-Type: text/mixed; boundary=b\n\n--b\n\n--b--\n", api.Part{Type: "text", Sub: "mixed", Params: params("boundary", "b"), Enc: "7bit", Body: 38, End: 49, Lines: 3}},
	} {
		if got := mime.Parse(k.message); !equal(got, k.part) {
			t.Errorf("Parse(%q) answers\n%+v, and not\n%+v", k.message, got, k.part)
		}
		checkParse(t, k.message)
	}
}

// P10.1: where the kids of a multipart stand.
func TestParseOfMultiparts(t *testing.T) {
	const (
		head = "Content-Type:multipart/x;boundary=b\n\n" // 37 bytes
		is   = `multipart/x[{"boundary" "b"}]`
		none = "application/octet-stream[]"
		kid  = "text/plain[]"
	)
	for _, k := range []struct{ body, told string }{
		{"--b\n\none\n--b\n\ntwo\n--b--\n", "0-37-61 " + is + " 7 (41-42-45 " + kid + " 1) (50-51-54 " + kid + " 1)"},
		{"--b\r\n\r\none\r\n--b--\r\n", "0-37-56 " + is + " 4 (42-44-47 " + kid + " 1)"},
		{"ahead\n--b\n\none\n--b--\nbehind\n--b\n\ntwo", "0-37-73 " + is + " 9 (47-48-51 " + kid + " 1)"},

		// Without one that closes the last kid is up to the end, with the line's end.
		{"--b\n\none\n", "0-37-46 " + is + " 3 (41-42-46 " + kid + " 1)"},
		{"--b\n\none\r\n--b\n\ntwo\r\n", "0-37-57 " + is + " 6 (41-42-45 " + kid + " 1) (51-52-57 " + kid + " 1)"},
		{"--b", "0-37-40 " + is + " 1 (40-40-40 " + kid + " 0)"},
		{"--b\n", "0-37-41 " + is + " 1 (41-41-41 " + kid + " 0)"},
		{"--b\n\n--b", "0-37-45 " + is + " 3 (41-41-41 " + kid + " 0) (45-45-45 " + kid + " 0)"},

		// A kid's end is never ahead of its beginning.
		{"--b\n--b\n--b--\n", "0-37-51 " + is + " 3 (41-41-41 " + kid + " 0) (45-45-45 " + kid + " 0)"},
		{"--b\r\n--b--", "0-37-47 " + is + " 2 (42-42-42 " + kid + " 0)"},
		{"--b\n\n--b--", "0-37-47 " + is + " 3 (41-41-41 " + kid + " 0)"},
		{"--b\n\r\n--b--", "0-37-48 " + is + " 3 (41-41-41 " + kid + " 0)"},
		{"--b\n\n\n--b--", "0-37-48 " + is + " 4 (41-42-42 " + kid + " 0)"},
		{"--b\n\r\r\n--b--", "0-37-49 " + is + " 3 (41-42-42 " + kid + " 0)"},
		{"--b\n\nx\r\r\n--b--", "0-37-51 " + is + " 4 (41-42-44 " + kid + " 1)"},

		// A kid's header is of its own bytes alone.
		{"--b\nContent-Type:a/b\n--b\n--b--", "0-37-67 " + is + " 4 (41-57-57 a/b[] 0) (62-62-62 " + kid + " 0)"},
		{"--b\nA:b\n--b\nContent-Type:a/b\n\n\n--b--", "0-37-73 " + is + " 7 (41-44-44 " + kid + " 0) (49-67-67 a/b[] 0)"},

		// Blanks may stand behind delimiters, nothing else, and nothing ahead of them.
		{"--b \t \r\n\none\n--b-- \t\n", "0-37-58 " + is + " 4 (45-46-49 " + kid + " 1)"},
		{"--b\n\n --b\n--bc\n--B\n-- b\n-b\n--b -\n--b-\n--b --\n--b---\nx--b\n--b\r \n--b\v\n--b\x00\n---b\n", "0-37-115 " + is + " 16 (41-42-115 " + kid + " 14)"},
		{"\r--b\n--b\n", "0-37-46 " + is + " 2 (46-46-46 " + kid + " 0)"},

		// There are none.
		{"", "0-37-37 " + none + " 0"},
		{"x\n", "0-37-39 " + none + " 1"},
		{"--b--\n", "0-37-43 " + none + " 1"},
		{"--b--\n--b\n\none\n--b--\n", "0-37-58 " + none + " 5"},
		{"--b\r", "0-37-41 " + none + " 1"},
		{"--b--\r", "0-37-43 " + none + " 1"},
		{"--bc\n--c\n --b\n", "0-37-51 " + none + " 3"},

		// The last line's byte 13 is its own, and a delimiter's only ahead of a byte 10.
		{"--b\n\none\n--b--\r", "0-37-52 " + is + " 4 (41-42-52 " + kid + " 2)"},
	} {
		if got := tell(mime.Parse(head + k.body)); got != k.told {
			t.Errorf("Parse of the body %q answers\n%s, and not\n%s", k.body, got, k.told)
		}
		checkParse(t, head+k.body)
	}
	if got := tell(mime.Parse(head[:36] + "--b\n")); got != "0-40-40 "+none+" 0" {
		t.Errorf("delimiters in the header make %s", got)
	}
}

// P10.1: which boundaries there are.
func TestBoundaries(t *testing.T) {
	most := strings.Repeat("b", 70)
	for _, k := range []struct {
		list, line string
		kids       int
	}{
		{"boundary=b", "--b", 1},
		{"BOUNDARY=B", "--B", 1},
		{"BOUNDARY=B", "--b", 0},
		{"boundary=\"b c\"", "--b c", 1},
		{"boundary=\"\\b\\\"\"", "--b\"", 1},
		{"boundary=b--", "--b--", 1},
		{"boundary=--", "----", 1},
		{"boundary=-", "---", 1},
		{"boundary=\" b\"", "-- b", 1},
		{"boundary=\" b\"", "--b", 0},
		{"boundary=\"b\xff\r\"", "--b\xff\r", 1},
		{"boundary=\"\"", "--", 0},
		{"a=b", "--b", 0},
		{"boundaries=b", "--b", 0},
		{"boundary=" + most, "--" + most, 1},
		{"boundary=" + most + "b", "--" + most + "b", 0},
		{"boundary=\"" + strings.Repeat(`\b`, 70) + "\"", "--" + most, 1},

		// A blank at its end is never at the end of what is left of a line.
		{"boundary=\"b \"", "--b ", 0},
		{"boundary=\"b \"", "--b", 0},
		{"boundary=\" \"", "-- ", 0},

		// The first one counts, even if another might.
		{"a=c;boundary=b;boundary=c", "--b", 1},
		{"a=c;boundary=b;boundary=c", "--c", 0},
		{"boundary=\"\";boundary=c", "--c", 0},
		{"boundary=" + most + "b;boundary=c", "--c", 0},
	} {
		message := "Content-Type: multipart/mixed;" + k.list + "\r\n\r\n" + k.line + "\r\n\r\nx"
		p := mime.Parse(message)
		if len(p.Kids) != k.kids || (p.Type == "multipart") != (k.kids > 0) {
			t.Errorf("Parse(%q) answers %s", message, tell(p))
		}
		checkParse(t, message)
	}
}

// P10.1: of more than MaxParts kids the first are told, the last of them as if the others were told too.
func TestHowManyKids(t *testing.T) {
	for _, count := range []int{1, api.MaxParts - 1, api.MaxParts, api.MaxParts + 1, 3 * api.MaxParts, 1 << 16} {
		for _, end := range []string{"", "--b--\n", "--b--\nbehind\n--b\n"} {
			message := "Content-Type: multipart/mixed; boundary=b\n\n" + strings.Repeat("--b\n\nx\n", count) + end
			p := mime.Parse(message)
			if len(p.Kids) != min(count, api.MaxParts) || p.Lines != 3*count+strings.Count(end, "\n") {
				t.Fatalf("of %d kids %d are told, and %d lines", count, len(p.Kids), p.Lines)
			}
			for i, kid := range p.Kids {
				last := end == "" && i == count-1
				size := 1
				if last {
					size = 2
				}
				if kid.At != p.Body+7*i+4 || kid.End != kid.Body+size {
					t.Fatalf("of %d kids the one at %d is %s", count, i, tell(kid))
				}
			}
			checkParse(t, message)
		}
	}
}

// nested is a message of multiparts in one another, so many, and a text in the innermost one.
func nested(levels int, closed bool) string {
	var ahead, behind string
	for i := range levels {
		boundary := "b" + strconv.Itoa(i)
		ahead += "Content-Type: multipart/mixed; boundary=" + boundary + "\r\n\r\n--" + boundary + "\r\n"
		if closed {
			behind = "\r\n--" + boundary + "--" + behind
		}
	}
	return ahead + "\r\nx" + behind
}

// P10.2: a part that is in MaxNest others has no kids.
func TestNests(t *testing.T) {
	for _, closed := range []bool{false, true} {
		for _, levels := range []int{0, 1, 2, api.MaxNest - 1, api.MaxNest, api.MaxNest + 1, 2 * api.MaxNest} {
			message := nested(levels, closed)
			p := mime.Parse(message)
			checkParse(t, message)
			for depth := range min(levels, api.MaxNest) {
				if p.Type != "multipart" || len(p.Kids) != 1 {
					t.Fatalf("of %d levels the one at %d is %s", levels, depth, tell(p))
				}
				p = p.Kids[0]
			}
			want := "text"
			if levels > api.MaxNest {
				want = "application"
			}
			if p.Type != want || len(p.Kids) != 0 {
				t.Errorf("of %d levels the innermost is %s", levels, tell(p))
			}
		}
	}
}

// P10.1, P10.2: parts that are multiparts in others that have several kids.
func TestTree(t *testing.T) {
	const message = "Content-Type: multipart/mixed; boundary=o\r\n\r\n" +
		"--o\r\nContent-Type: multipart/alternative; boundary=i\r\n\r\n--i\r\n\r\nplain\r\n--i\r\nContent-Type: text/html\r\n\r\n<p>\r\n--i--\r\n\r\n" +
		"--o\r\nContent-Type: image/png; name=\"a b.png\"\r\nContent-Transfer-Encoding: Base64\r\nContent-ID: <1>\r\n\r\nAAAA\r\n" +
		"--o--\r\n"
	const told = `((("text" "plain" NIL NIL NIL "7bit" 5 1)("text" "html" NIL NIL NIL "7bit" 3 1) "alternative")` +
		`("image" "png" ("name" "a b.png") "<1>" NIL "base64" 4) "mixed")`
	p := mime.Parse(message)
	if got := mime.Text(p); got != told {
		t.Errorf("Text answers %s", got)
	}
	if got := mime.Count(p); got != 5 {
		t.Errorf("Count answers %d", got)
	}
	checkParse(t, message)
	for _, k := range []struct {
		path  []int
		bytes string
	}{
		{[]int{1, 1}, "plain"},
		{[]int{1, 2}, "<p>"},
		{[]int{2}, "AAAA"},
	} {
		found, ok := mime.Find(p, k.path)
		if !ok || message[found.Body:found.End] != k.bytes {
			t.Errorf("at %v there is %s", k.path, tell(found))
		}
	}
}

// P10.1, P10.2: an inner multipart's boundary in an outer one's parts, and the same boundary in both: the outer one cuts first.
func TestSharedBoundaries(t *testing.T) {
	for _, message := range []string{
		"Content-Type:multipart/x;boundary=b\n\n--b\nContent-Type:multipart/x;boundary=b\n\n--b\n\none\n--b--\n--b--\n",
		"Content-Type:multipart/x;boundary=b\n\n--b\nContent-Type:multipart/x;boundary=b--\n\n--b--\n--b----\n",
		"Content-Type:multipart/x;boundary=a\n\n--a\nContent-Type:multipart/x;boundary=b\n\n--b\n\none\n--a\n--b\n\ntwo\n--b--\n--a--\n",
	} {
		checkParse(t, message)
	}
	p := mime.Parse("Content-Type:multipart/x;boundary=b\n\n--b\nContent-Type:multipart/x;boundary=b\n\n--b\n\none\n--b--\n")
	if len(p.Kids) != 2 || p.Kids[0].Type != "application" || p.Kids[1].Type != "text" {
		t.Errorf("Parse answers %s", tell(p))
	}
}

// The chapter's words on parts, said a second way: over lists of all lines and of all delimiters.
var (
	lineEnd  = regexp.MustCompile(`\r?\n\z`)
	endBlank = regexp.MustCompile(`[ \t]+\z`)
)

type modelLine struct {
	at, textEnd, end int
	text             string
}

func modelLines(message string, from, to int) (list []modelLine) {
	for _, l := range lines.Split(message[from:to]) {
		text := lineEnd.ReplaceAllString(l, "")
		list = append(list, modelLine{from, from + len(text), from + len(l), endBlank.ReplaceAllString(text, "")})
		from += len(l)
	}
	return list
}

func modelKids(message string, p api.Part, boundary string, others int) (kids []api.Part) {
	all := modelLines(message, p.Body, p.End)
	var marks []int
	closed := false
	for i, l := range all {
		closes := l.text == "--"+boundary+"--"
		if !closed && (closes || l.text == "--"+boundary) {
			marks = append(marks, i)
			closed = closes
		}
	}
	for n, i := range marks {
		at, end := all[i].end, p.End
		if n < len(marks)-1 {
			end = max(at, all[marks[n+1]-1].textEnd)
		} else if closed {
			break
		}
		kids = append(kids, modelPart(message, at, end, others+1))
	}
	return kids[:min(len(kids), api.MaxParts)]
}

func modelPart(message string, at, end, others int) api.Part {
	fields, _ := header.Fields(message[at:end])
	first := func(name, other string) string {
		if all := header.All(fields, name); len(all) > 0 && all[0] != "" {
			return all[0]
		}
		return other
	}
	body := at + header.Body(message[at:end])
	p := api.Part{At: at, Body: body, End: end, Lines: len(lines.Split(message[body:end]))}
	p.Id, p.Desc, p.Enc = first("content-id", ""), first("content-description", ""), asciiSmall(first("content-transfer-encoding", "7bit"))
	ok := false
	if p.Type, p.Sub, p.Params, ok = modelType(first("content-type", "")); !ok {
		p.Type, p.Sub = "text", "plain"
	}
	if p.Type != "multipart" {
		return p
	}
	for _, param := range p.Params {
		if param.Name == "boundary" {
			if len(param.Value) >= 1 && len(param.Value) <= 70 && others < api.MaxNest {
				p.Kids = modelKids(message, p, param.Value, others)
			}
			break
		}
	}
	if len(p.Kids) == 0 {
		p.Type, p.Sub, p.Params = "application", "octet-stream", nil
	}
	return p
}

// checkParse holds a message's part against the model, and its places against P10.2.
func checkParse(t *testing.T, message string) {
	t.Helper()
	got := mime.Parse(message)
	if want := modelPart(message, 0, len(message), 0); !equal(got, want) {
		t.Fatalf("Parse(%.300q) answers\n%s, and not\n%s", message, tell(got), tell(want))
	}
	if got.At != 0 || got.End != len(message) {
		t.Fatalf("Parse(%.300q) answers a part from %d to %d", message, got.At, got.End)
	}
	checkPlaces(t, message, got, 0)
}

// P10.2
func checkPlaces(t *testing.T, message string, p api.Part, others int) {
	t.Helper()
	if p.At > p.Body || p.Body > p.End || others > api.MaxNest || len(p.Kids) > api.MaxParts {
		t.Fatalf("Parse(%.300q) has in %d others: %s", message, others, tell(p))
	}
	at := p.Body
	for _, kid := range p.Kids {
		if kid.At < at || kid.End > p.End {
			t.Fatalf("Parse(%.300q) has a kid not behind %d, or not in its part: %s", message, at, tell(kid))
		}
		at = kid.End
		checkPlaces(t, message, kid, others+1)
	}
}

// P10.1, P10.2
func TestEveryShortBody(t *testing.T) {
	var longer func(text string, most int)
	longer = func(text string, most int) {
		checkParse(t, "Content-Type:multipart/x;boundary=b\n\n"+text)
		if most == 0 {
			return
		}
		for _, c := range []string{"--b", "--", "b", " ", "\r", "\n", "A:"} {
			longer(text+c, most-1)
		}
	}
	longer("", 6)
}

// P10.1, P10.2
func TestManyMessages(t *testing.T) {
	pieces := []string{
		"Content-Type: multipart/mixed; boundary=a\n\n", "Content-Type: multipart/x; boundary=\"b\"\r\n\r\n", "content-type:MULTIPART/x;boundary=a;boundary=b\n\n",
		"\n--a\n", "\r\n--b\r\n", "\n--a--\n", "\r\n--b--\r\n", "--a\n", "--b\r\n", "--a \t\n", "--b-- \r\n", "--a", "--b--",
		"\n", "\r\n", "\n\n", "\r", " ", "x", "text\n", "text\r\n",
		"Content-Type: text/html; charset=\"u\\\"\"\n", "Content-Type: a\n", "Content-ID: <i>\n", "Content-Description:\r\n d\r\n", "Content-Transfer-Encoding: 8BIT\n", "\xff:\x00",
	}
	seed := uint32(10)
	next := func(n int) int {
		seed = seed*1664525 + 1013904223
		return int(seed>>8) % n
	}
	most, deepest := 0, 0
	for range 30000 {
		var message strings.Builder
		message.WriteString(pieces[next(3)])
		for range next(40) {
			message.WriteString(pieces[next(len(pieces))])
		}
		checkParse(t, message.String())
		p := mime.Parse(message.String())
		most, deepest = max(most, len(p.Kids)), max(deepest, depth(p))
	}
	if most < 5 || deepest < 2 {
		t.Errorf("the messages are too plain: %d kids at most, %d levels", most, deepest)
	}
}

func depth(p api.Part) int {
	deepest := 0
	for _, kid := range p.Kids {
		deepest = max(deepest, 1+depth(kid))
	}
	return deepest
}

// P10.1: great messages take a few goings through them, no more.
func TestGreatMessages(t *testing.T) {
	const size = 1 << 20
	const head = "Content-Type: multipart/mixed; boundary=b\n\n"
	for _, k := range []struct {
		message string
		kids    int
	}{
		{strings.Repeat("\n", size), 0},
		{strings.Repeat("A:b\n", size), 0},
		{strings.Repeat(" ", size), 0},
		{head + strings.Repeat("--b\n", size), api.MaxParts},
		{head + strings.Repeat("--bb\n", size), 0},
		{head + "--b\n\n" + strings.Repeat("x\r\n", size) + "--b--", 1},
		{head + "--b" + strings.Repeat(" ", size) + "\n", 1},
		{nested(2*api.MaxNest, true) + strings.Repeat("\n", size), 1},
		{nested(2*api.MaxNest, false) + strings.Repeat("--x\r\n", size), 1},
	} {
		p := mime.Parse(k.message)
		if len(p.Kids) != k.kids || p.End != len(k.message) {
			t.Errorf("Parse of %.60q and so on answers %d kids, %d bytes", k.message, len(p.Kids), p.End)
		}
	}
}

// P10.1: what is answered is the caller's own, and no two lists of it are one.
func TestParseSharesNothing(t *testing.T) {
	message := nested(3, true)
	first := mime.Parse(message)
	first.Params[0].Name = "changed"
	first.Kids[0] = api.Part{}
	checkParse(t, message)

	two := "Content-Type:multipart/x;boundary=b\n\n--b\nContent-Type:a/b;c=d\n\n\n--b\nContent-Type:a/b;c=d\n\n\n--b--\n"
	p := mime.Parse(two)
	_ = append(p.Kids[0].Params, api.Param{Name: "more"})
	p.Kids[0].Params[0].Value = "changed"
	if p.Kids[1].Params[0].Value != "d" || p.Params[0].Value != "b" {
		t.Errorf("lists share memory: %s", tell(p))
	}
	checkParse(t, two)
}
