package envelope_test

import (
	"regexp"
	"slices"
	"strconv"
	"strings"
	"testing"

	"postbag/api"
	"postbag/envelope"
)

// addrs is a list of addresses, of each one its name, local part and domain.
func addrs(words ...string) []api.Addr {
	var list []api.Addr
	for three := range slices.Chunk(words, 3) {
		list = append(list, api.Addr{Name: three[0], Local: three[1], Domain: three[2]})
	}
	return list
}

func checkAddresses(t *testing.T, value string, want []api.Addr) {
	t.Helper()
	if got := envelope.Addresses(value); !slices.Equal(got, want) {
		t.Fatalf("Addresses(%.200q) answers %.200q, and not %.200q", value, got, want)
	}
}

// P11.1: the chapter's example, and ordinary fields.
func TestAddresses(t *testing.T) {
	for _, k := range []struct {
		value string
		want  []api.Addr
	}{
		{"Ann <a@b>, c@d", addrs("Ann", "a", "b", "", "c", "d")},
		{"a@b", addrs("", "a", "b")},
		{"<a@b>", addrs("", "a", "b")},
		{"Ann Bee <a@b>", addrs("Ann Bee", "a", "b")},
		{`"Bee, Ann" <a@b>, "C" <c@d>,e@f`, addrs("Bee, Ann", "a", "b", "C", "c", "d", "", "e", "f")},
		{"a,b,c", addrs("", "a", "", "", "b", "", "", "c", "")},
		{"Ann<a@b>", addrs("Ann", "a", "b")},
		{"\u00c4nn <\u00e4@\xff>", addrs("\u00c4nn", "\u00e4", "\xff")},
		{"Ann (x, y) <a@b>", addrs("", "Ann (x", "", "y)", "a", "b")},
		{"group: a@b, c@d;", addrs("", "group: a", "b", "", "c", "d;")},
	} {
		checkAddresses(t, k.value, k.want)
	}
}

// P11.1: pieces that are empty, and blanks: at a piece's ends and a name's they go, elsewhere they stay.
func TestBlanks(t *testing.T) {
	for _, k := range []struct {
		value string
		want  []api.Addr
	}{
		{"", nil},
		{" \t ", nil},
		{",", nil},
		{" ,\t,, ", nil},
		{",a@b,", addrs("", "a", "b")},
		{", ,a@b, ,c@d,\t", addrs("", "a", "b", "", "c", "d")},
		{" \ta@b\t ,\tc@d ", addrs("", "a", "b", "", "c", "d")},
		{"a @ b", addrs("", "a ", " b")},
		{" \tAnn \t Bee\t < a@b\t> ", addrs("Ann \t Bee", " a", "b\t")},
		{"\t<a@b> x", addrs("", "a", "b")},
		{`" Ann " <a@b>`, addrs(" Ann ", "a", "b")},
		{"\r\na@b\v,\u00a0", addrs("", "\r\na", "b\v", "", "\u00a0", "")},
		{"\nAnn\r <a@b>", addrs("\nAnn\r", "a", "b")},
		{"< >", addrs("", " ", "")},
		{"x< ", addrs("x", "", "")},
		{"x<a ", addrs("x", "a", "")},
	} {
		checkAddresses(t, k.value, k.want)
	}
}

// P11.1: quoted texts hide what stands in them; a name that is nothing else is what it means.
func TestQuotedTexts(t *testing.T) {
	for _, k := range []struct {
		value string
		want  []api.Addr
	}{
		{`"a,b"@c,d`, addrs("", `"a,b"`, "c", "", "d", "")},
		{`"a\",b" <c>, d`, addrs(`a",b`, "c", "", "", "d", "")},
		{`"a\\",b`, addrs("", `"a\\"`, "", "", "b", "")},
		{`"a\\\",b" <c>`, addrs(`a\",b`, "c", "")},
		{`"\a\b\<\,\ \\" <c>`, addrs(`ab<, \`, "c", "")},
		{`"a<b>" <c@d>`, addrs("a<b>", "c", "d")},
		{`"a<b>"`, addrs("", `"a<b>"`, "")},
		{`"<", a>`, addrs("", `"<"`, "", "", "a>", "")},
		{`"" <a@b>`, addrs("", "a", "b")},
		{`"\"" <a@b>`, addrs(`"`, "a", "b")},
		{`"\\" <a@b>`, addrs(`\`, "a", "b")},
		{"\t\"Ann\"\t<a@b>", addrs("Ann", "a", "b")},
		{"\"a\\\xff\\\n\x00\"<b>", addrs("a\xff\n\x00", "b", "")},

		// A name with more than one quoted text stays as it stands.
		{`"a" "b" <c>`, addrs(`"a" "b"`, "c", "")},
		{`"a""b" <c>`, addrs(`"a""b"`, "c", "")},
		{`"a"b <c>`, addrs(`"a"b`, "c", "")},
		{`a"b" <c>`, addrs(`a"b"`, "c", "")},
		{`a"b,\"<"c <d>`, addrs(`a"b,\"<"c`, "d", "")},
		{`"a\b" c <d>`, addrs(`"a\b" c`, "d", "")},

		// One that isn't closed goes to the end.
		{`"a,b`, addrs("", `"a,b`, "")},
		{`"`, addrs("", `"`, "")},
		{`"\`, addrs("", `"\`, "")},
		{`"a\"`, addrs("", `"a\"`, "")},
		{`"a\", b <c@d>`, addrs("", `"a\", b <c`, "d>")},
		{`a, "b <c@d>, e`, addrs("", "a", "", "", `"b <c`, "d>, e")},
		{`a"b, c`, addrs("", `a"b, c`, "")},
		{`"a" "b <c>, d`, addrs("", `"a" "b <c>, d`, "")},
		{`"a, `, addrs("", `"a,`, "")},

		// A "\" outside of quoted texts is a byte as others are.
		{`\"a,b" <c>`, addrs(`\"a,b"`, "c", "")},
		{`a\,b`, addrs("", `a\`, "", "", "b", "")},
		{`\\ <a@b>`, addrs(`\\`, "a", "b")},
		{`\<a@b>`, addrs(`\`, "a", "b")},
		{`<a\>b>`, addrs("", `a\`, "")},
	} {
		checkAddresses(t, k.value, k.want)
	}
}

// P11.1: between "<" and the next ">" nothing is cut, and nothing begins.
func TestAngles(t *testing.T) {
	for _, k := range []struct {
		value string
		want  []api.Addr
	}{
		{"<a,b@c>,d", addrs("", "a,b", "c", "", "d", "")},
		{"<@x,@y:a@b>", addrs("", "@x,@y:a", "b")},
		{"<>", addrs("", "", "")},
		{"Ann <>, <>", addrs("Ann", "", "", "", "", "")},
		{"<a><b>", addrs("", "a", "")},
		{"<a> <b>, c", addrs("", "a", "", "", "c", "")},
		{"x <a> y <b@c>", addrs("x", "a", "")},
		{"<a> <b,c>, d", addrs("", "a", "", "", "d", "")},
		{"<a<b>, c", addrs("", "a<b", "", "", "c", "")},
		{"<<a>>, c", addrs("", "<a", "", "", "c", "")},
		{"a> b, c>", addrs("", "a> b", "", "", "c>", "")},
		{"a> <b>", addrs("a>", "b", "")},
		{`<"a,b"@c>, d`, addrs("", `"a,b"`, "c", "", "d", "")},
		{`<"a>b"@c>`, addrs("", `"a`, "")},
		{`<a"b>, c`, addrs("", `a"b`, "", "", "c", "")},
		{`<a"b>, "c, d" <e>`, addrs("", `a"b`, "", "c, d", "e", "")},

		// Without a ">" behind it, a "<" goes to the end.
		{"<", addrs("", "", "")},
		{"Ann <a@b", addrs("Ann", "a", "b")},
		{"a, Ann <a@b, c@d", addrs("", "a", "", "Ann", "a@b, c", "d")},
		{`<a", "b`, addrs("", `a", "b`, "")},
		{"<a <b, c", addrs("", "a <b, c", "")},
	} {
		checkAddresses(t, k.value, k.want)
	}
}

// P11.1: the last "@" is the one between the parts.
func TestParts(t *testing.T) {
	for _, k := range []struct {
		value string
		want  []api.Addr
	}{
		{"a", addrs("", "a", "")},
		{"@", addrs("", "", "")},
		{"a@", addrs("", "a", "")},
		{"@b", addrs("", "", "b")},
		{"a@b@c", addrs("", "a@b", "c")},
		{"@@", addrs("", "@", "")},
		{`a@"b@c"`, addrs("", `a@"b`, `c"`)},
		{"x@y <a>", addrs("x@y", "a", "")},
		{"<a>@b", addrs("", "a", "")},
		{"<a@b@>", addrs("", "a@b", "")},
	} {
		checkAddresses(t, k.value, k.want)
	}
}

// P11.1: MaxAddrs are told, no more; pieces that are empty aren't counted.
func TestHowManyAddresses(t *testing.T) {
	for _, count := range []int{1, api.MaxAddrs - 1, api.MaxAddrs, api.MaxAddrs + 1, 2 * api.MaxAddrs, 1 << 16} {
		var value strings.Builder
		var want []api.Addr
		for i := range count {
			n := strconv.Itoa(i)
			value.WriteString(", , \"N, " + n + "\" <l" + n + "@d>")
			want = append(want, api.Addr{Name: "N, " + n, Local: "l" + n, Domain: "d"})
		}
		checkAddresses(t, value.String(), want[:min(count, api.MaxAddrs)])
		checkAddresses(t, value.String()+",", want[:min(count, api.MaxAddrs)])
	}
	checkAddresses(t, strings.Repeat("a,", api.MaxAddrs)+"\"b", slices.Repeat(addrs("", "a", ""), api.MaxAddrs))
}

// The chapter's words on a field's addresses, said a second way: a value is a row of quoted texts, of stretches from "<" to ">", and of single bytes.
var (
	unit   = regexp.MustCompile(`"(?:[^"\\]|\\(?s:.))*(?:"|\\?\z)|<[^>]*(?:>|\z)|(?s:.)`)
	escape = regexp.MustCompile(`\\((?s:.))`)
)

func modelAddresses(value string) []api.Addr {
	var list []api.Addr
	var piece []string
	for _, u := range append(unit.FindAllString(value, -1), ",") {
		if u != "," {
			piece = append(piece, u)
			continue
		}
		if piece = withoutBlanks(piece); len(piece) > 0 {
			list = append(list, modelAddress(piece))
		}
		piece = nil
	}
	return list[:min(len(list), api.MaxAddrs)]
}

func modelAddress(piece []string) api.Addr {
	name, address := "", strings.TrimRight(strings.Join(piece, ""), " \t")
	angle := slices.IndexFunc(piece, func(u string) bool { return u[0] == '<' })
	if angle >= 0 {
		ahead := withoutBlanks(piece[:angle])
		name = strings.Join(ahead, "")
		if len(ahead) == 1 && name[0] == '"' {
			name = escape.ReplaceAllString(name[1:len(name)-1], "$1")
		}
		address = strings.TrimSuffix(piece[angle][1:], ">")
		if angle == len(piece)-1 && !strings.HasSuffix(piece[angle], ">") {
			address = strings.TrimRight(address, " \t")
		}
	}
	words := strings.Split(address, "@")
	if last := len(words) - 1; last > 0 {
		return api.Addr{Name: name, Local: strings.Join(words[:last], "@"), Domain: words[last]}
	}
	return api.Addr{Name: name, Local: address}
}

func withoutBlanks(units []string) []string {
	blank := func(u string) bool { return u == " " || u == "\t" }
	for len(units) > 0 && blank(units[0]) {
		units = units[1:]
	}
	for len(units) > 0 && blank(units[len(units)-1]) {
		units = units[:len(units)-1]
	}
	return units
}

// P11.1
func TestAddressesOfEveryShortText(t *testing.T) {
	var longer func(text string, most int)
	longer = func(text string, most int) {
		checkAddresses(t, text, modelAddresses(text))
		if most == 0 {
			return
		}
		for _, c := range []string{"a", "@", ",", `"`, `\`, "<", ">", " "} {
			longer(text+c, most-1)
		}
	}
	longer("", 6)
}

// P11.1: each byte, in each place of a value, between and instead of others.
func TestAddressesOfEveryByte(t *testing.T) {
	for _, sample := range []string{"a", "Ann <a@b>, c@d", `"A, \"n" <a@b> ,<c,d> `, `"a" b <c@d,e`, `a, "b\c@d`} {
		for b := range 256 {
			c := string([]byte{byte(b)})
			for i := range len(sample) + 1 {
				for _, value := range []string{sample[:i] + c + sample[i:], sample[:i] + c + sample[min(i+1, len(sample)):]} {
					checkAddresses(t, value, modelAddresses(value))
				}
			}
		}
	}
}

// P11.1
func TestManyValues(t *testing.T) {
	pieces := []string{
		"a@b", "Ann", "<a@b>", `"A, n"`, `"\""`, ",", ",", ", ", " ", "\t", "<", ">", "@", `"`, `"`, `\`, `\"`, `\\`, "x", "\xff", "\u00e9", "\r\n ", "\x00",
		"<x,y>", `"<"`, `<">`, "(c)", "g:", ";",
	}
	seed := uint32(11)
	next := func(n int) int {
		seed = seed*1664525 + 1013904223
		return int(seed>>8) % n
	}
	most := 0
	for range 100000 {
		var value strings.Builder
		for range next(30) {
			value.WriteString(pieces[next(len(pieces))])
		}
		want := modelAddresses(value.String())
		checkAddresses(t, value.String(), want)
		most = max(most, len(want))
	}
	if most < 5 {
		t.Errorf("the values are too plain: %d addresses at most", most)
	}
}

// P11.1: a great value takes a few goings through it, no more.
func TestGreatValues(t *testing.T) {
	const size = 1 << 22
	for _, k := range []struct {
		value string
		want  []api.Addr
	}{
		{strings.Repeat(",", size), nil},
		{strings.Repeat(" ,\t", size) + "a", addrs("", "a", "")},
		{strings.Repeat(" ", size), nil},
		{strings.Repeat(`"`, size), addrs("", strings.Repeat(`"`, size), "")},
		{strings.Repeat(`"`, size) + "<a>", addrs(strings.Repeat(`"`, size), "a", "")},
		{`"` + strings.Repeat(`\"`, size) + `"<a>`, addrs(strings.Repeat(`"`, size), "a", "")},
		{`"` + strings.Repeat(`\`, size), addrs("", `"`+strings.Repeat(`\`, size), "")},
		{strings.Repeat("<", size), addrs("", strings.Repeat("<", size-1), "")},
		{strings.Repeat("<>", size), addrs("", "", "")},
		{strings.Repeat("@", size), addrs("", strings.Repeat("@", size-1), "")},
		{"<" + strings.Repeat(",", size) + ">", addrs("", strings.Repeat(",", size), "")},
	} {
		checkAddresses(t, k.value, k.want)
	}
}

// P11.1: what is answered is the caller's own.
func TestAddressesShareNothing(t *testing.T) {
	const value = "Ann <a@b>, c@d"
	first := envelope.Addresses(value)
	clear(first)
	_ = append(first[:1], api.Addr{Name: "more"})
	checkAddresses(t, value, addrs("Ann", "a", "b", "", "c", "d"))
}
