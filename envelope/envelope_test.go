package envelope_test

import (
	"slices"
	"strconv"
	"strings"
	"testing"

	"postbag/api"
	"postbag/envelope"
)

const empty = "(NIL NIL NIL NIL NIL NIL NIL NIL NIL NIL)"

func checkText(t *testing.T, message, want string) {
	t.Helper()
	if got := envelope.Text(message); got != want {
		t.Fatalf("Text(%.400q) answers %.400q, and not %.400q", message, got, want)
	}
}

// P11.1
func TestList(t *testing.T) {
	for _, k := range []struct {
		addrs []api.Addr
		text  string
	}{
		{nil, "NIL"},
		{[]api.Addr{}, "NIL"},
		{addrs("Ann", "a", "b"), `(("Ann" NIL "a" "b"))`},
		{addrs("Ann", "a", "b", "", "c", "d"), `(("Ann" NIL "a" "b")(NIL NIL "c" "d"))`},
		{addrs("", "", ""), `((NIL NIL "" ""))`},
		{addrs("", "", "", "", "", ""), `((NIL NIL "" "")(NIL NIL "" ""))`},
		{addrs("NIL", "NIL", "NIL"), `(("NIL" NIL "NIL" "NIL"))`},
		{addrs(" ", ")", "("), `((" " NIL ")" "("))`},
		{addrs(`a"b`, `c\d`, `"`), `(("a\"b" NIL "c\\d" "\""))`},
		{addrs("\u00e9", "\n", "\x7f\x00"), "(({2}\r\n\u00e9 NIL {1}\r\n\n {2}\r\n\x7f\x00))"},
		{addrs("a, b <c>", "d@e", "f@g"), `(("a, b <c>" NIL "d@e" "f@g"))`},
	} {
		if got := envelope.List(k.addrs); got != k.text {
			t.Errorf("List(%q) answers %q, and not %q", k.addrs, got, k.text)
		}
	}
}

// P11.1: a list that is handed in is told whole, however long it is, and isn't changed.
func TestLongList(t *testing.T) {
	for _, count := range []int{api.MaxAddrs - 1, api.MaxAddrs, api.MaxAddrs + 1, 1 << 16} {
		list := slices.Repeat(addrs("n", "l", "d"), count)
		want := "(" + strings.Repeat(`("n" NIL "l" "d")`, count) + ")"
		if got := envelope.List(list); got != want {
			t.Errorf("List of %d addresses answers %.80q and so on, of %d bytes", count, got, len(got))
		}
		if !slices.Equal(list, slices.Repeat(addrs("n", "l", "d"), count)) {
			t.Error("List changes what it is handed")
		}
	}
}

// P11.1: the chapter's example, and ordinary messages.
func TestText(t *testing.T) {
	checkText(t, "", empty)
	checkText(t, "\r\n\r\nbody", empty)
	checkText(t, "Subject: x\r\nFrom: a@b\r\n\r\n",
		`(NIL "x" ((NIL NIL "a" "b")) ((NIL NIL "a" "b")) ((NIL NIL "a" "b")) NIL NIL NIL NIL NIL)`)
	checkText(t, "Bcc: bcc@h\r\nCc: cc@h\r\nTo: to@h\r\nReply-To: reply@h\r\nSender: sender@h\r\nFrom: from@h\r\n"+
		"Message-ID: <m@h>\r\nIn-Reply-To: <i@h>\r\nSubject: \"hi\"\r\nDate: Thu, 01 Jan 1970 00:00:00 +0000\r\n\r\nSubject: body\r\n",
		`("Thu, 01 Jan 1970 00:00:00 +0000" "\"hi\"" ((NIL NIL "from" "h")) ((NIL NIL "sender" "h")) ((NIL NIL "reply" "h"))`+
			` ((NIL NIL "to" "h")) ((NIL NIL "cc" "h")) ((NIL NIL "bcc" "h")) "<i@h>" "<m@h>")`)
	checkText(t, "To: \"Bee, Ann\" <a@b>,\r\n\tc@d,\r\n , Eve <e@f>\r\n\r\n",
		`(NIL NIL NIL NIL NIL (("Bee, Ann" NIL "a" "b")(NIL NIL "c" "d")("Eve" NIL "e" "f")) NIL NIL NIL NIL)`)
	checkText(t, "Subject: \u00e9\r\nTo: \xff <a@b>\r\n\r\n",
		"(NIL {2}\r\n\u00e9 NIL NIL NIL (({1}\r\n\xff NIL \"a\" \"b\")) NIL NIL NIL NIL)")
}

// P11.1: each field alone, at the place that is its own; names with any letters; the first field of a name.
func TestEachField(t *testing.T) {
	for place, name := range []string{"Date", "Subject", "From", "Sender", "Reply-To", "To", "Cc", "Bcc", "In-Reply-To", "Message-ID"} {
		value, other := `"a@b"`, `"c@d"`
		if isOfAddresses(name) {
			value, other = `((NIL NIL "a" "b"))`, `((NIL NIL "c" "d"))`
		}
		want := envelopeOf(place, value)
		for _, n := range []string{name, strings.ToUpper(name), strings.ToLower(name)} {
			checkText(t, n+": a@b\r\n\r\n", want)
			checkText(t, n+":a@b", want)
			checkText(t, n+":\n a@b\n", want)
			checkText(t, n+": a@b\r\n"+name+": c@d\r\n\r\n", want)
			checkText(t, name+": c@d\r\n"+n+": a@b\r\n\r\n", envelopeOf(place, other))
		}
		for _, message := range []string{"X" + name + ": a@b\r\n\r\n", name + "x: a@b\r\n\r\n", name + " : a@b\r\n\r\n", name + " a@b\r\n\r\n", "\r\n" + name + ": a@b\r\n", " " + name + ": a@b\r\n"} {
			checkText(t, message, empty)
		}
	}
}

func isOfAddresses(name string) bool {
	return slices.Contains([]string{"From", "Sender", "Reply-To", "To", "Cc", "Bcc"}, name)
}

// envelopeOf is the envelope of one value alone; From's is Sender's and Reply-To's, too.
func envelopeOf(place int, value string) string {
	words := slices.Repeat([]string{"NIL"}, 10)
	words[place] = value
	if place == 2 {
		words[3], words[4] = value, value
	}
	return "(" + strings.Join(words, " ") + ")"
}

// P11.1: a field that is there and empty has a value, but no addresses.
func TestEmptyFields(t *testing.T) {
	for place, name := range []string{"Date", "Subject", "From", "Sender", "Reply-To", "To", "Cc", "Bcc", "In-Reply-To", "Message-ID"} {
		want := envelopeOf(place, `""`)
		if isOfAddresses(name) {
			want = empty
			checkText(t, name+": , \t,\r\n\r\n", want)
		}
		checkText(t, name+":\r\n\r\n", want)
		checkText(t, name+": \t\r\n \r\n\r\n", want)
		checkText(t, name+":\r\n"+name+": a@b\r\n\r\n", want)
	}
}

// P11.1: Sender's and Reply-To's addresses are From's, if they have none; no others are, and From's are nobody's.
func TestFromForOthers(t *testing.T) {
	const from, other = `((NIL NIL "a" "b"))`, `((NIL NIL "c" "d"))`
	for _, k := range []struct{ fields, sender, reply string }{
		{"", from, from},
		{"Sender: c@d\n", other, from},
		{"Reply-To: c@d\n", from, other},
		{"Sender: c@d\nReply-To: c@d\n", other, other},
		{"Sender:\nReply-To: ,\n", from, from},
		{"Sender:\nSender: c@d\nReply-To: , ,\nReply-To: c@d\n", from, from},
		{"Sender: <>\n", `((NIL NIL "" ""))`, from},
		{"Reply-To: \"\n", from, `((NIL NIL "\"" ""))`},
		{"To:\nCc: ,\n", from, from},
	} {
		want := "(NIL NIL " + from + " " + k.sender + " " + k.reply + " NIL NIL NIL NIL NIL)"
		checkText(t, "From: a@b\n"+k.fields, want)
		checkText(t, k.fields+"From: a@b\n\nFrom: e@f\n", want)
	}
	checkText(t, "Sender: c@d\n", "(NIL NIL NIL "+other+" NIL NIL NIL NIL NIL NIL)")
	checkText(t, "From:\nFrom: e@f\nReply-To: c@d\n", "(NIL NIL NIL NIL "+other+" NIL NIL NIL NIL NIL)")
}

// P11.1: where there are too many fields, there are none; where there are too many addresses, the first ones are told.
func TestTooMany(t *testing.T) {
	const one = "Subject: x\r\n"
	checkText(t, one+strings.Repeat("A: b\r\n", api.MaxFields-1)+"\r\n", envelopeOf(1, `"x"`))
	checkText(t, one+strings.Repeat("A: b\r\n", api.MaxFields-1)+"\r\n"+strings.Repeat("A: b\r\n", api.MaxFields), envelopeOf(1, `"x"`))
	checkText(t, one+strings.Repeat("A: b\r\n", api.MaxFields)+"\r\n", empty)
	checkText(t, one+"From: a@b\r\n"+strings.Repeat("A: b\r\n", 1<<16), empty)
	for _, count := range []int{api.MaxAddrs - 1, api.MaxAddrs, api.MaxAddrs + 1, 1 << 16} {
		list := "(" + strings.Repeat(`(NIL NIL "a" "b")`, min(count, api.MaxAddrs)) + ")"
		checkText(t, "From: "+strings.Repeat("a@b,", count)+"\r\n", envelopeOf(2, list))
	}
}

// reader reads an envelope's text back, as one who knows IMAP's forms alone: NIL, texts in quotation marks, literals, lists.
type reader struct {
	t    *testing.T
	rest string
}

func (r *reader) take(mark string) bool {
	rest, found := strings.CutPrefix(r.rest, mark)
	r.rest = rest
	return found
}

func (r *reader) need(mark string) {
	r.t.Helper()
	if !r.take(mark) {
		r.t.Fatalf("there is no %q ahead of %.80q", mark, r.rest)
	}
}

// text is a text, and whether there is one.
func (r *reader) text() (string, bool) {
	r.t.Helper()
	if r.take("NIL") {
		return "", false
	}
	if r.take("{") {
		digits, rest, _ := strings.Cut(r.rest, "}\r\n")
		count, err := strconv.Atoi(digits)
		if err != nil || count > len(rest) {
			r.t.Fatalf("a literal has %q bytes of %d", digits, len(rest))
		}
		r.rest = rest[count:]
		return rest[:count], true
	}
	quoted, err := strconv.QuotedPrefix(r.rest)
	if err != nil {
		r.t.Fatalf("there is no text ahead of %.80q", r.rest)
	}
	r.rest = r.rest[len(quoted):]
	return strings.NewReplacer(`\"`, `"`, `\\`, `\`).Replace(quoted[1 : len(quoted)-1]), true
}

func (r *reader) addrs() []api.Addr {
	r.t.Helper()
	if r.take("NIL") {
		return nil
	}
	var list []api.Addr
	r.need("(")
	for !r.take(")") {
		r.need("(")
		name, named := r.text()
		if named && name == "" {
			r.t.Fatal("a name that is empty isn't NIL")
		}
		r.need(" NIL ")
		local, hasLocal := r.text()
		r.need(" ")
		domain, hasDomain := r.text()
		r.need(")")
		if !hasLocal || !hasDomain {
			r.t.Fatal("an address's part is NIL")
		}
		list = append(list, api.Addr{Name: name, Local: local, Domain: domain})
	}
	if len(list) == 0 {
		r.t.Fatal("a list of none isn't NIL")
	}
	return list
}

// checkEnvelope holds what is read back from a message's envelope against the values of its first fields.
func checkEnvelope(t *testing.T, message string, values map[string]string) {
	t.Helper()
	r := &reader{t, envelope.Text(message)}
	for i, name := range []string{"Date", "Subject", "From", "Sender", "Reply-To", "To", "Cc", "Bcc", "In-Reply-To", "Message-ID"} {
		r.need([]string{"(", " "}[min(i, 1)])
		value, there := values[name]
		if !isOfAddresses(name) {
			if got, is := r.text(); got != value || is != there {
				t.Fatalf("in the envelope of %q %s is %q, %v, and not %q", message, name, got, is, value)
			}
			continue
		}
		want := modelAddresses(value)
		if len(want) == 0 && (name == "Sender" || name == "Reply-To") {
			want = modelAddresses(values["From"])
		}
		if got := r.addrs(); !slices.Equal(got, want) {
			t.Fatalf("in the envelope of %q %s is %q, and not %q", message, name, got, want)
		}
	}
	r.need(")")
	if r.rest != "" {
		t.Fatalf("behind the envelope stands %q", r.rest)
	}
}

// P11.1: fields in any order, some twice, some not there, of values that are whatever they are.
func TestManyMessages(t *testing.T) {
	names := []string{"Date", "Subject", "From", "Sender", "Reply-To", "To", "Cc", "Bcc", "In-Reply-To", "Message-ID", "Received", "X"}
	pieces := []string{"a@b", "Ann", "<a@b>", `"A, n"`, `"\""`, ",", ",", ", ", " ", "<", ">", `"`, `\`, `\\`, "x", "\xff", "\u00e9", "\x00", "\x7f", "{1}", "NIL", ")", "("}
	seed := uint32(11)
	next := func(n int) int {
		seed = seed*1664525 + 1013904223
		return int(seed>>8) % n
	}
	for range 30000 {
		var message strings.Builder
		values := map[string]string{}
		for range next(16) {
			name, value := names[next(len(names))], ""
			for range next(8) {
				value += pieces[next(len(pieces))]
			}
			message.WriteString(name + ":" + value + "\r\n")
			if _, there := values[name]; !there {
				values[name] = strings.Trim(value, " ")
			}
		}
		message.WriteString("\r\nFrom: body\r\nSubject: body\r\n")
		checkEnvelope(t, message.String(), values)
	}
}

// P11.1: great messages take a few goings through them, no more.
func TestGreatMessages(t *testing.T) {
	const size = 1 << 22
	checkText(t, strings.Repeat("\n", size), empty)
	checkText(t, strings.Repeat("A:b\n", size), empty)
	checkText(t, "Subject: "+strings.Repeat("x\n ", size)+"x\n", envelopeOf(1, `"`+strings.Repeat("x ", size)+`x"`))
	checkText(t, "To: "+strings.Repeat(",", size)+"\n", empty)
	checkText(t, "To: <"+strings.Repeat(",", size)+"\n", envelopeOf(5, `((NIL NIL "`+strings.Repeat(",", size)+`" ""))`))
	checkText(t, "From: "+strings.Repeat("x", size)+"\n", envelopeOf(2, `((NIL NIL "`+strings.Repeat("x", size)+`" ""))`))
}
