package section_test

import (
	"math"
	"slices"
	"strconv"
	"strings"
	"testing"

	"postbag/api"
	"postbag/header"
	"postbag/section"
)

func checkBytes(t *testing.T, message string, s section.Spec, want string) {
	t.Helper()
	if got, ok := section.Bytes(message, s); !ok || got != want {
		t.Fatalf("Bytes(%.300q, %s) answers %.300q, %v, and not %.300q", message, show(s), got, ok, want)
	}
}

func checkNothing(t *testing.T, message string, s section.Spec) {
	t.Helper()
	if got, ok := section.Bytes(message, s); ok || got != "" {
		t.Fatalf("Bytes(%.300q, %s) answers %.300q, %v, and not nothing", message, show(s), got, ok)
	}
}

// spec is a section by its text, as a client names it.
func spec(t *testing.T, text string) section.Spec {
	t.Helper()
	s, err := section.Parse(text)
	if err != nil {
		t.Fatalf("Parse(%q) answers %v", text, err)
	}
	return s
}

// P12.1
func TestBytesOfMessage(t *testing.T) {
	const head = "To: a\r\n b\r\nno field\r\nCC: c\r\nX: d\r\nto: e\r\n\r\n"
	const body = "To: f\r\n\r\nbody\r\n"
	for _, k := range []struct{ message, text, want string }{
		{head + body, "", head + body},
		{head + body, "HEADER", head},
		{head + body, "TEXT", body},
		{head + body, "HEADER.FIELDS (To)", "To: a\r\n b\r\nto: e\r\n\r\n"},
		{head + body, "HEADER.FIELDS (cc TO cc)", "To: a\r\n b\r\nCC: c\r\nto: e\r\n\r\n"},
		{head + body, "HEADER.FIELDS (y)", "\r\n"},
		{head + body, "HEADER.FIELDS.NOT (tO)", "CC: c\r\nX: d\r\n\r\n"},
		{head + body, "HEADER.FIELDS.NOT (y)", "To: a\r\n b\r\nCC: c\r\nX: d\r\nto: e\r\n\r\n"},
		{head + body, "HEADER.FIELDS.NOT (to cc x)", "\r\n"},
		{head + body, "1", body},
		{head + body, "1.MIME", head},

		{"", "", ""},
		{"", "HEADER", ""},
		{"", "TEXT", ""},
		{"", "HEADER.FIELDS (a)", "\r\n"},
		{"", "HEADER.FIELDS.NOT (a)", "\r\n"},
		{"", "1", ""},
		{"", "1.MIME", ""},
		{"A: b", "HEADER", "A: b"},
		{"A: b", "TEXT", ""},
		{"A: b\n", "HEADER", "A: b\n"},
		{"A: b\n\nc", "HEADER", "A: b\n\n"},
		{"A: b\n\nc", "TEXT", "c"},
		{"\r\n\r\nc", "HEADER", "\r\n"},
		{"\r\n\r\nc", "TEXT", "\r\nc"},
		{"\r\n\r\nc", "1", "\r\nc"},
		{"\r\n\r\nc", "1.MIME", "\r\n"},
		{"\xff\x00", "", "\xff\x00"},
		{"A: b\r\n\r\nc", "text", "c"},
	} {
		checkBytes(t, k.message, spec(t, k.text), k.want)
	}
}

const letter = "Subject: x\r\nContent-Type: multipart/mixed; boundary=out\r\n\r\n" +
	"ahead\r\n" +
	"--out\r\n" +
	"\r\n" +
	"one\r\n" +
	"--out\r\n" +
	"Content-Type: multipart/alternative; boundary=\"in in\"\r\n\r\n" +
	"--in in\r\n" +
	"Content-Type: text/html\r\nX: y\r\n\r\n" +
	"<b>\r\n\r\n" +
	"--in in\r\n" +
	"--in in--\r\n" +
	"between\r\n" +
	"--out\r\n" +
	"Content-ID: <3>\r\n" +
	"--out--\r\n" +
	"behind\r\n"

// P12.1: the parts of a message, their bytes and their headers; a part that is there may have none of either.
func TestBytesOfParts(t *testing.T) {
	_, body, _ := strings.Cut(letter, "\r\n\r\n")
	for _, k := range []struct{ text, want string }{
		{"TEXT", body},
		{"1", "one"},
		{"1.MIME", "\r\n"},
		{"2.mime", "Content-Type: multipart/alternative; boundary=\"in in\"\r\n\r\n"},
		{"2", "--in in\r\nContent-Type: text/html\r\nX: y\r\n\r\n<b>\r\n\r\n--in in\r\n--in in--\r\nbetween"},
		{"2.1", "<b>\r\n"},
		{"2.1.MIME", "Content-Type: text/html\r\nX: y\r\n\r\n"},
		{"2.2", ""},
		{"2.2.MIME", ""},
		{"3", ""},
		{"3.MIME", "Content-ID: <3>"},
	} {
		checkBytes(t, letter, spec(t, k.text), k.want)
	}
	for _, text := range []string{
		"4", "999", "1.1", "1.1.MIME", "1.2", "2.3", "2.1.1", "2.2.1.MIME", "3.1", "4.MIME", "4.1", "1.1.1.1.1.1.1.1.1.1.1.1.1.1.1.1.1.1.1.1",
		"1.HEADER", "1.TEXT", "2.HEADER", "2.TEXT", "2.1.HEADER", "2.1.TEXT", "1.HEADER.FIELDS (X)", "2.1.HEADER.FIELDS (X)", "2.1.HEADER.FIELDS.NOT (Y)", "4.TEXT",
	} {
		checkNothing(t, letter, spec(t, text))
	}
	for _, text := range []string{"2", "1.1", "1.1.MIME", "2.MIME", "1.TEXT", "1.HEADER", "1.HEADER.FIELDS (A)", "1.HEADER.FIELDS.NOT (B)"} {
		checkNothing(t, "A: b\r\n\r\nc", spec(t, text))
	}
}

// node is a part as one writes it: what it is made of is known ahead of any reading.
type node struct {
	head, body string // as they must be told
	kids       []*node
}

// makeNode makes a part that is so deep in others; deep stands in its boundary, so that no two of one row are the same.
func makeNode(random *source, deep int) *node {
	heads := []string{"", "X: y\r\n", "Content-Type: text/html\r\nA:\r\n b\r\n", "A: b\n"}
	bodies := []string{"", "one", "one\r\n", "a\nb", "\r\n", "--", "--b", "\xff\x00", "Subject: z\r\n\r\n"}
	n := &node{head: heads[random.next(len(heads))] + "\r\n"}
	if deep > 4 || random.next(3) == 0 {
		n.body = bodies[random.next(len(bodies))]
		return n
	}
	boundary := "b" + strconv.Itoa(deep)
	n.head = "Content-Type: Multipart/Mixed; boundary=" + boundary + "\r\n\r\n"
	n.body = []string{"", "ahead\r\n", "\r\n"}[random.next(3)]
	for range 1 + random.next(3) {
		kid := makeNode(random, deep+1)
		n.kids = append(n.kids, kid)
		n.body += "--" + boundary + "\r\n" + kid.head + kid.body + "\r\n"
	}
	n.body += "--" + boundary + "--" + []string{"", "\r\n", " \r\nbehind\r\n"}[random.next(3)]
	return n
}

func checkNode(t *testing.T, message string, n *node, at []int) {
	t.Helper()
	checkBytes(t, message, section.Spec{Path: at}, n.body)
	checkBytes(t, message, section.Spec{Path: at, What: "MIME"}, n.head)
	for _, what := range []string{"HEADER", "TEXT"} {
		checkNothing(t, message, section.Spec{Path: at, What: what})
	}
	for i, kid := range n.kids {
		checkNode(t, message, kid, append(slices.Clone(at), i+1))
	}
	for _, what := range []string{"", "MIME"} {
		checkNothing(t, message, section.Spec{Path: append(slices.Clone(at), len(n.kids)+1), What: what})
	}
}

// P12.1: of messages that are put together of known parts each part is found as it was.
func TestManyMessages(t *testing.T) {
	random := source(24)
	for range 1500 {
		n := makeNode(&random, 0)
		message := n.head + n.body
		checkBytes(t, message, section.Spec{}, message)
		checkBytes(t, message, section.Spec{What: "HEADER"}, n.head)
		checkBytes(t, message, section.Spec{What: "TEXT"}, n.body)
		if len(n.kids) == 0 {
			checkNode(t, message, n, path(1))
			checkNothing(t, message, section.Spec{Path: path(2)})
			continue
		}
		for i, kid := range n.kids {
			checkNode(t, message, kid, path(i+1))
		}
		checkNothing(t, message, section.Spec{Path: path(len(n.kids) + 1)})
	}
}

// P12.1: of whatever messages, header and body are the message, and fields are those that layer 9 tells.
func TestEveryShortMessage(t *testing.T) {
	pieces := []string{"A: x", "b:", "a:", "\r\n", "\n", "\r", " ", "y"}
	lists := [][]string{names("a"), names("B"), names("a", "b"), names("c")}
	var longer func(message string, most int)
	longer = func(message string, most int) {
		head, _ := section.Bytes(message, section.Spec{What: "HEADER"})
		checkBytes(t, message, section.Spec{What: "TEXT"}, message[header.Body(message):])
		checkBytes(t, message, section.Spec{What: "HEADER"}, message[:header.Body(message)])
		checkBytes(t, message, section.Spec{}, message)
		checkBytes(t, message, section.Spec{Path: path(1), What: "MIME"}, head)
		checkBytes(t, message, section.Spec{Path: path(1)}, message[len(head):])
		for _, list := range lists {
			checkBytes(t, message, section.Spec{What: "HEADER.FIELDS", Names: list}, header.Only(message, list, false))
			checkBytes(t, message, section.Spec{What: "HEADER.FIELDS.NOT", Names: list}, header.Only(message, list, true))
		}
		if most == 0 {
			return
		}
		for _, piece := range pieces {
			longer(message+piece, most-1)
		}
	}
	longer("", 5)
}

// P12.1: fields beyond those that layer 9's Fields tells, and messages beyond those that are stored.
func TestBytesOfGreatMessages(t *testing.T) {
	const size = 1 << 22
	fields := "X: y\r\n" + strings.Repeat("A: b\r\n", api.MaxFields) + "Z: z\r\n"
	checkBytes(t, fields+"\r\nc", section.Spec{What: "HEADER.FIELDS", Names: names("z", "x")}, "X: y\r\nZ: z\r\n\r\n")
	checkBytes(t, fields+"\r\nc", section.Spec{What: "HEADER.FIELDS.NOT", Names: names("A")}, "X: y\r\nZ: z\r\n\r\n")
	checkBytes(t, fields+"\r\nc", section.Spec{What: "HEADER"}, fields+"\r\n")

	great := strings.Repeat("A: b\r\n", size)
	checkBytes(t, great, section.Spec{What: "HEADER.FIELDS", Names: names("a")}, great+"\r\n")
	checkBytes(t, great+"\r\n"+great, section.Spec{What: "TEXT"}, great)
	checkBytes(t, great+"\r\n"+great, section.Spec{Path: path(1)}, great)
	checkBytes(t, "\r\n"+great, section.Spec{Path: path(1), What: "MIME"}, "\r\n")

	many := "Content-Type: multipart/mixed; boundary=b\r\n\r\n" + strings.Repeat("--b\r\n\r\nx\r\n", size/4) + "--b--\r\n"
	checkBytes(t, many, section.Spec{Path: path(api.MaxParts)}, "x")
	checkNothing(t, many, section.Spec{Path: path(api.MaxParts + 1)})
}

// P12.1: a path of as many numbers as there may be leads through as many parts.
func TestDeepPath(t *testing.T) {
	const levels = 20
	message, behind := "", ""
	for i := range levels {
		boundary := "b" + strconv.Itoa(i) + "x"
		message += "Content-Type: multipart/mixed; boundary=" + boundary + "\r\n\r\n--" + boundary + "\r\n"
		behind = "\r\n--" + boundary + "--" + behind
	}
	message += "A: b\r\n\r\nc" + behind
	ones := slices.Repeat(path(1), levels)
	checkBytes(t, message, section.Spec{Path: ones}, "c")
	checkBytes(t, message, section.Spec{Path: ones, What: "MIME"}, "A: b\r\n\r\n")
	checkNothing(t, message, section.Spec{Path: append(slices.Clone(ones[1:]), 2)})
	checkNothing(t, message, section.Spec{Path: append(slices.Clone(ones), 1)})
}

// P12.1: the chapter's example, all pieces of short texts, and numbers beyond all bounds.
func TestPartial(t *testing.T) {
	if got := section.Partial("abc", 1, 5); got != "bc" {
		t.Errorf("Partial answers %q", got)
	}
	numbers := []int{math.MinInt, math.MinInt + 1, -1 << 31, -2, -1, 0, 1, 2, 3, 4, 5, 6, 7, 1 << 31, math.MaxInt - 6, math.MaxInt - 1, math.MaxInt}
	for _, s := range []string{"", "a", "ab", "\u00e9\xff\x00", "abcdef"} {
		for _, from := range numbers {
			for _, count := range numbers {
				var want []byte
				for i := range len(s) {
					if from >= 0 && i >= from && i-from < count {
						want = append(want, s[i])
					}
				}
				if got := section.Partial(s, from, count); got != string(want) {
					t.Errorf("Partial(%q, %d, %d) answers %q, and not %q", s, from, count, got, want)
				}
			}
		}
	}
	great := strings.Repeat("x", 1<<24)
	if section.Partial(great, 0, math.MaxInt) != great || section.Partial(great, 1, 1<<24) != great[1:] || section.Partial(great, 1<<24-1, 1) != "x" || section.Partial(great, 1<<24, 1) != "" {
		t.Error("Partial of a great text answers another piece")
	}
}
