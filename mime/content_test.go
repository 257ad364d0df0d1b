package mime_test

import (
	"errors"
	"regexp"
	"slices"
	"strconv"
	"strings"
	"testing"

	"postbag/api"
	"postbag/mime"
)

func params(namesAndValues ...string) []api.Param {
	var list []api.Param
	for pair := range slices.Chunk(namesAndValues, 2) {
		list = append(list, api.Param{Name: pair[0], Value: pair[1]})
	}
	return list
}

// P10.1: the chapter's example, ordinary types, and the edges of their form.
func TestType(t *testing.T) {
	for _, k := range []struct {
		value, typ, sub string
		params          []api.Param
	}{
		{"Text/Plain; charset=\"a b\"", "text", "plain", params("charset", "a b")},
		{"a/b", "a", "b", nil},
		{"MULTIPART/Mixed;BOUNDARY=AbC", "multipart", "mixed", params("boundary", "AbC")},
		{" \ta\t /  b\t", "a", "b", nil},
		{"a/b ; \tc = \t d ;e\t=\"f\" ", "a", "b", params("c", "d", "e", "f")},
		{"a/b;c=d;C=D;c=d", "a", "b", params("c", "d", "c", "D", "c", "d")},
		{"!#$%&'*+-.09AZ^_`az{|}~/x;y=!#$%&'*+-.09AZ^_`az{|}~", "!#$%&'*+-.09az^_`az{|}~", "x", params("y", "!#$%&'*+-.09AZ^_`az{|}~")},

		// Quoted texts hold any bytes; a "\" stands for the byte behind it, whatever it is.
		{`a/b;c=""`, "a", "b", params("c", "")},
		{`a/b;c=";d=e"`, "a", "b", params("c", ";d=e")},
		{`a/b;c="\"\\\x\;";d="\\"`, "a", "b", params("c", `"\x;`, "d", `\`)},
		{"a/b;c=\" \t\r\n\x00\xff\u00e9\\\u00e9\\\n\"", "a", "b", params("c", " \t\r\n\x00\xff\u00e9\u00e9\n")},
		{`a/b;c=" D "`, "a", "b", params("c", " D ")},
		{`a/b;c="d";e=f`, "a", "b", params("c", "d", "e", "f")},
	} {
		checkType(t, k.value, k.typ, k.sub, k.params)
	}
}

// P10.1
func TestTypeOfWhatIsNone(t *testing.T) {
	for _, value := range []string{
		"", " ", "/", "a", "a/", "/b", "a /", "/ b", "a//b", "a/b/c", "a b/c", "a/b c", "text plain",
		"a/b;", "a/b; ", "a/b;;c=d", "a/b;c=d;", "a/b,c=d", ";c=d", "a/b c=d",
		"a/b;c", "a/b;c=", "a/b;=d", "a/b;c d=e", "a/b;c=d e", "a/b;c=d=e", "a/b;c==d", "a/b;c:d",
		`a/b;c="`, `a/b;c="d`, `a/b;c="\"`, `a/b;c="d\`, `a/b;c="\\\"`, `a/b;c=d"`, `a/b;c="d"e`, `a/b;c="d" e`, `a/b;c="d""e"`, `a/b;c=d"e"`,
		`"a"/b`, `a/"b"`, `a/b;"c"=d`, `a/b;c='d e'`,
		"a/b (c)", "(c) a/b", "a/b;c=(d)", "a/b;c=d@e", "a/b;c=<d>", "a/b;c=[d]", "a/b;c=d?", "a/b;c=d/e", "a/b;c=d,e", "a/b;c=d:e", `a/b;c=\d`,
		"a/b\n", "a/b\r", "\na/b", "a\n/b", "a/b;\nc=d", "a/b\v", "a/b\u00a0", "\u00e4/b", "a/\xff", "a/b;c=\x7f", "a/b;c=\x00", "a/\x1f",
	} {
		typ, sub, list, err := mime.Type(value)
		if !errors.Is(err, api.ErrForm) || typ != "" || sub != "" || len(list) != 0 {
			t.Errorf("Type(%q) answers %q, %q, %q, %v", value, typ, sub, list, err)
		}
	}
}

func checkType(t *testing.T, value, typ, sub string, list []api.Param) {
	t.Helper()
	gotType, gotSub, gotList, err := mime.Type(value)
	if err != nil || gotType != typ || gotSub != sub || !slices.Equal(gotList, list) {
		t.Fatalf("Type(%q) answers %q, %q, %q, %v, and not %q, %q, %q", value, gotType, gotSub, gotList, err, typ, sub, list)
	}
}

// The chapter's words on a content type's text, said a second way: by expressions.
const (
	token  = "[!#$%&'*+.0-9A-Z^_`a-z{|}~-]+"
	quoted = `"(?:[^"\\]|\\(?s:.))*"`
	blank  = `[ \t]*`
	param  = ";" + blank + "(" + token + ")" + blank + "=" + blank + "(?:(" + token + ")|(" + quoted + "))" + blank
)

var (
	typeForm  = regexp.MustCompile(`\A` + blank + "(" + token + ")" + blank + "/" + blank + "(" + token + ")" + blank + "((?:" + param + `)*)\z`)
	paramForm = regexp.MustCompile(param)
	escape    = regexp.MustCompile(`\\((?s:.))`)
)

// modelType is what a text means, and whether it means anything.
func modelType(value string) (typ, sub string, list []api.Param, ok bool) {
	found := typeForm.FindStringSubmatch(value)
	if found == nil {
		return "", "", nil, false
	}
	for _, p := range paramForm.FindAllStringSubmatch(found[3], -1) {
		meant := p[2]
		if p[3] != "" {
			meant = escape.ReplaceAllString(p[3][1:len(p[3])-1], "$1")
		}
		list = append(list, api.Param{Name: asciiSmall(p[1]), Value: meant})
	}
	return asciiSmall(found[1]), asciiSmall(found[2]), list, true
}

// asciiSmall makes letters small by a table of them.
func asciiSmall(s string) string {
	return strings.NewReplacer("A", "a", "B", "b", "C", "c", "D", "d", "E", "e", "F", "f", "G", "g", "H", "h", "I", "i", "J", "j", "K", "k", "L", "l", "M", "m",
		"N", "n", "O", "o", "P", "p", "Q", "q", "R", "r", "S", "s", "T", "t", "U", "u", "V", "v", "W", "w", "X", "x", "Y", "y", "Z", "z").Replace(s)
}

func checkTypeByModel(t *testing.T, value string) {
	t.Helper()
	typ, sub, list, ok := modelType(value)
	if ok {
		checkType(t, value, typ, sub, list)
		return
	}
	gotType, gotSub, gotList, err := mime.Type(value)
	if !errors.Is(err, api.ErrForm) || gotType != "" || gotSub != "" || len(gotList) != 0 {
		t.Fatalf("Type(%q) answers %q, %q, %q, %v, and not ErrForm", value, gotType, gotSub, gotList, err)
	}
}

// P10.1: each byte, in each place of a text, between and instead of others.
func TestTypeOfEveryByte(t *testing.T) {
	for _, sample := range []string{"a/b", " a / b ; c = d ", `a/b;c="d e";f=g`, `aB/cD;eF="\g\"";h="";i=j`} {
		for b := range 256 {
			c := string([]byte{byte(b)})
			for i := range len(sample) + 1 {
				checkTypeByModel(t, sample[:i]+c+sample[i:])
				if i < len(sample) {
					checkTypeByModel(t, sample[:i]+c+sample[i+1:])
				}
			}
		}
	}
}

// P10.1
func TestTypeOfEveryShortText(t *testing.T) {
	for _, start := range []string{"", "a/b", "a/b;c=", `a/b;c="`} {
		var longer func(text string, most int)
		longer = func(text string, most int) {
			checkTypeByModel(t, text)
			if most == 0 {
				return
			}
			for _, c := range []string{"a", "Z", "/", ";", "=", `"`, `\`, " "} {
				longer(text+c, most-1)
			}
		}
		longer(start, 5)
	}
}

// P10.1: a text of many parameters, and of great ones, takes no more than a going through it.
func TestGreatType(t *testing.T) {
	const count = 1 << 18
	var value strings.Builder
	value.WriteString("a/b")
	var list []api.Param
	for i := range count {
		n := strconv.Itoa(i)
		value.WriteString(` ; P` + n + ` = "\"` + n + `"`)
		list = append(list, api.Param{Name: "p" + n, Value: `"` + n})
	}
	checkType(t, value.String(), "a", "b", list)
	great := strings.Repeat("x", 1<<22)
	checkType(t, great+"/"+great+";"+great+"=\""+strings.Repeat(`\"`, 1<<22)+"\"", great, great, params(great, strings.Repeat(`"`, 1<<22)))
	for _, value := range []string{strings.Repeat(" ", 1<<22), strings.Repeat("a/", 1<<21), "a/b" + strings.Repeat(";", 1<<22), "a/b;c=\"" + strings.Repeat(`\`, 1<<22)} {
		if _, _, _, err := mime.Type(value); !errors.Is(err, api.ErrForm) {
			t.Errorf("Type of %.8q and so on answers %v", value, err)
		}
	}
}

// P10.1: what is answered is the caller's own.
func TestTypeSharesNothing(t *testing.T) {
	const value = "a/b;c=d;e=f"
	_, _, first, _ := mime.Type(value)
	clear(first)
	checkType(t, value, "a", "b", params("c", "d", "e", "f"))
}
