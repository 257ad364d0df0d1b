package retry_test

import (
	"math"
	"math/rand"
	"slices"
	"strconv"
	"strings"
	"testing"

	"postbag/api"
	"postbag/dates"
	"postbag/header"
	"postbag/retry"
)

func stampOf(greeting, domain string, many, now int, message string) told {
	text, err := retry.Stamp(greeting, domain, many, now, message)
	return told{text, err}
}

func bounceOf(domain, to string, id int, names []string, now int, message string) told {
	text, err := retry.Bounce(domain, to, id, names, now, message)
	return told{text, err}
}

// Texts that are, and aren't, domains.
func someDomains() []string {
	return []string{
		"host", "x", "0", "a.b", "A.b-C.9", "127.0.0.1", strings.Repeat("a", 100), strings.Repeat("a.", 49) + "ab",
		"", ".", "a.", ".a", "a..b", "-a", "a-", "a_b", "a b", "a@b", "<a>", "a\r\n", "a\n", " a", "\xff", "é", "[1.2.3.4]",
		strings.Repeat("a", 101), strings.Repeat("a.", 50) + "a", strings.Repeat("a", 1<<20),
	}
}

// Texts that are, and aren't, those of paths without brackets.
func someReturns() []string {
	return []string{
		"a@b", "a.b@c-d.e", "ANN@HOST", "!#$%&'*+-/=?^_`{|}~@h", strings.Repeat("a", 64) + "@" + strings.Repeat("b", 100),
		"", "@", "a", "a@", "@b", "<a@b>", "a@b>", "<a@b", "<>", "a@b><c@d", "a@b>x", "a@b@c", "a..b@c", "a@b..c", "a@b ", " a@b", "a@b\r\n", "a b@c", "a@-b",
		strings.Repeat("a", 65) + "@b", "a@" + strings.Repeat("b", 101), "\xff@b", ">", "><", strings.Repeat(">", 1<<20),
	}
}

func someMoments() []int {
	return []int{0, 1, 59, 86399, 86400, 951782400, 1e9, api.MaxTime - 1, api.MaxTime, api.MaxTime + 1, -1, math.MinInt, math.MaxInt}
}

func someMessages() []string {
	return []string{
		"", "m", "\r\n", "Subject: hi\r\n\r\nhello\r\n", "a\nb", "\x00\xff", strings.Repeat("x", 1999), strings.Repeat("x", 2000), strings.Repeat("x", 2000) + "y",
		strings.Repeat("line\r\n", 333) + "e\r\nfg", strings.Repeat("é", 1001), strings.Repeat("m", api.MaxMessage), strings.Repeat("m", api.MaxMessage+1),
	}
}

// P18.1
func TestStamp(t *testing.T) {
	for _, k := range []struct {
		greeting, domain string
		many, now        int
		message          string
		want             told
	}{
		{"x", "host", 1, 0, "m", told{text: "Received: from x by host\r\n\tfor 1 of 1; Thu, 01 Jan 1970 00:00:00 +0000\r\nm"}},
		{"Mail.Example", "h-1.net", 6, 951782400, "", told{text: "Received: from Mail.Example by h-1.net\r\n\tfor 1 of 6; Tue, 29 Feb 2000 00:00:00 +0000\r\n"}},
		{"x", "y", math.MaxInt, api.MaxTime, "\r\n", told{text: "Received: from x by y\r\n\tfor 1 of 9223372036854775807; Thu, 31 Dec 2099 23:59:59 +0000\r\n\r\n"}},
		{"x", "y", 1, -1, "m", told{err: api.ErrRange}},
		{"x", "y", 1, api.MaxTime + 1, "m", told{err: api.ErrRange}},
		{"x", "y", 0, 0, "m", told{err: api.ErrRange}},
		{"x", "y", -1, 0, "m", told{err: api.ErrRange}},
		{"", "y", 0, 0, "m", told{err: api.ErrRange}},
		{"x", "", 1, -1, "m", told{err: api.ErrRange}},
		{"", "y", 1, 0, "m", told{err: api.ErrName}},
		{"x", "", 1, 0, "m", told{err: api.ErrName}},
		{"x y", "z", 1, 0, "m", told{err: api.ErrName}},
		{"x", "y.", 1, 0, "m", told{err: api.ErrName}},
		{"", "", 1, 0, "m", told{err: api.ErrName}},
	} {
		if got := stampOf(k.greeting, k.domain, k.many, k.now, k.message); got != k.want {
			t.Errorf("Stamp(%q, %q, %d, %d, %q) answers %v", k.greeting, k.domain, k.many, k.now, k.message, got)
		}
	}
}

// P18.1: all pairs of names, and all rows of some numbers and messages.
func TestStampOfMany(t *testing.T) {
	check := func(greeting, domain string, many, now int, message string) {
		got, want := stampOf(greeting, domain, many, now, message), modelStamp(greeting, domain, many, now, message)
		if got != want {
			t.Fatalf("Stamp(%.120q, %.120q, %d, %d, %.120q) answers %v, not %v", greeting, domain, many, now, message, got, want)
		}
	}
	for _, greeting := range someDomains() {
		for _, domain := range someDomains() {
			for _, now := range []int{0, -1} {
				check(greeting, domain, 2, now, "m")
			}
		}
	}
	for _, many := range []int{math.MinInt, -1, 0, 1, 2, 6, 10, 1000000, math.MaxInt} {
		for _, now := range someMoments() {
			for _, message := range someMessages() {
				check("x", "host", many, now, message)
				check("x", "-", many, now, message)
			}
		}
	}
}

// P18.1: the stamp is one field more, of a message that is else the same; its date is the moment.
func TestStampIsAField(t *testing.T) {
	message := "Subject: hi\r\n\r\nhello\r\n"
	text, err := retry.Stamp("x", "host", 3, 951782400, message)
	if err != nil {
		t.Fatal(err)
	}
	fields, err := header.Fields(text)
	if err != nil || len(fields) != 2 || fields[0].Name != "Received" || fields[1].Name != "Subject" {
		t.Fatalf("a stamped message has the fields %v, %v", fields, err)
	}
	if text[fields[0].End:] != message {
		t.Errorf("behind the stamp there is %q", text[fields[0].End:])
	}
	what, date, _ := strings.Cut(fields[0].Value, "; ")
	if now, err := dates.ParseMail(date); now != 951782400 || err != nil || what != "from x by host\tfor 1 of 3" {
		t.Errorf("the stamp's value is %q", fields[0].Value)
	}
}

// P18.1
func TestBounce(t *testing.T) {
	want := "From: MAILER-DAEMON@host\r\nTo: a@b\r\nSubject: Undelivered\r\nDate: Thu, 01 Jan 1970 00:01:00 +0000\r\nMessage-ID: <bounce.7@host>\r\n\r\nNot delivered to:\r\n ann\r\n bob\r\n\r\nSubject: hi\r\n\r\nhello\r\n"
	if got := bounceOf("host", "a@b", 7, []string{"ann", "bob"}, 60, "Subject: hi\r\n\r\nhello\r\n"); got != (told{text: want}) {
		t.Errorf("Bounce answers %v", got)
	}
	want = "From: MAILER-DAEMON@h\r\nTo: a@b\r\nSubject: Undelivered\r\nDate: Thu, 31 Dec 2099 23:59:59 +0000\r\nMessage-ID: <bounce.1@h>\r\n\r\nNot delivered to:\r\n\r\n"
	if got := bounceOf("h", "a@b", 1, nil, api.MaxTime, ""); got != (told{text: want}) {
		t.Errorf("Bounce for nobody answers %v", got)
	}
	for _, k := range []struct {
		domain, to string
		id, now    int
		err        error
	}{
		{"h", "a@b", 0, 0, api.ErrRange},
		{"h", "a@b", -1, 0, api.ErrRange},
		{"h", "a@b", 1, -1, api.ErrRange},
		{"h", "a@b", 1, api.MaxTime + 1, api.ErrRange},
		{"", "", 0, 0, api.ErrRange},
		{"", "", 1, -1, api.ErrRange},
		{"", "a@b", 1, 0, api.ErrName},
		{"h.", "a@b", 1, 0, api.ErrName},
		{"h", "", 1, 0, api.ErrName},
		{"h", "a", 1, 0, api.ErrName},
		{"h", "<a@b>", 1, 0, api.ErrName},
		{"h", "a@b>", 1, 0, api.ErrName},
		{"h", "a@b><c@d", 1, 0, api.ErrName},
	} {
		if got := bounceOf(k.domain, k.to, k.id, []string{"ann"}, k.now, "m"); got != (told{err: k.err}) {
			t.Errorf("Bounce(%q, %q, %d, .., %d) answers %v", k.domain, k.to, k.id, k.now, got)
		}
	}
}

// P18.1: all pairs of names, and all rows of some numbers, lists and messages.
func TestBounceOfMany(t *testing.T) {
	check := func(domain, to string, id int, names []string, now int, message string) {
		before := slices.Clone(names)
		got, want := bounceOf(domain, to, id, names, now, message), modelBounce(domain, to, id, names, now, message)
		if got != want {
			t.Fatalf("Bounce(%.120q, %.120q, %d, %.120q, %d, %.120q) answers %v, not %v", domain, to, id, names, now, message, got, want)
		}
		if !slices.Equal(names, before) {
			t.Fatalf("Bounce changed its names %q to %q", before, names)
		}
	}
	for _, domain := range someDomains() {
		for _, to := range someReturns() {
			for _, now := range []int{0, -1} {
				check(domain, to, 2, []string{"ann"}, now, "m")
			}
		}
	}
	lists := [][]string{nil, {}, {"ann"}, {"ann", "bob", "eve"}, {"bob", "ann", "ann"}, {"", " ", "\r\n", "\xff"}, slices.Repeat([]string{"x"}, 1000), {strings.Repeat("y", 1<<16)}}
	for _, id := range []int{math.MinInt, -1, 0, 1, 2, 10, 1 << 31, math.MaxInt} {
		for _, now := range someMoments() {
			for _, names := range lists {
				for _, message := range someMessages() {
					check("host", "a.b@c", id, names, now, message)
				}
			}
		}
	}
}

// P18.1: of every length near 2000, just that much of the message comes back.
func TestBounceOfEveryLength(t *testing.T) {
	var all strings.Builder
	for i := range 1000 {
		all.WriteString(strconv.Itoa(i) + "\r\n")
	}
	for length := range 2300 {
		message := all.String()[:length]
		got, want := bounceOf("h", "a@b", 1, []string{"ann"}, 0, message), modelBounce("h", "a@b", 1, []string{"ann"}, 0, message)
		if got != want {
			t.Fatalf("Bounce of %d bytes answers %q, not %q", length, got.text, want.text)
		}
	}
}

// P18.1: each byte at the beginning of each name, within it and at its end.
func TestEveryByteOfNames(t *testing.T) {
	for b := range 256 {
		one := string([]byte{byte(b)})
		for _, text := range []string{one, one + "a", "a" + one + "b", "a" + one, one + "@a", "a" + one + "@b", "a@" + one, "a@b" + one + "c", "a@b" + one} {
			for _, domain := range []string{"h", text} {
				if got, want := stampOf(text, domain, 1, 0, one), modelStamp(text, domain, 1, 0, one); got != want {
					t.Errorf("Stamp(%q, %q, ..) answers %v, not %v", text, domain, got, want)
				}
				if got, want := stampOf(domain, text, 1, 0, one), modelStamp(domain, text, 1, 0, one); got != want {
					t.Errorf("Stamp(%q, %q, ..) answers %v, not %v", domain, text, got, want)
				}
				if got, want := bounceOf(domain, text, 1, []string{one}, 0, one), modelBounce(domain, text, 1, []string{one}, 0, one); got != want {
					t.Errorf("Bounce(%q, %q, ..) answers %v, not %v", domain, text, got, want)
				}
			}
		}
	}
}

// P18.1: made names and numbers.
func TestTextsByChance(t *testing.T) {
	dice := rand.New(rand.NewSource(18))
	for range 200000 {
		domain, other := anyText(dice, "aZ0.-", 5), anyText(dice, "bY9.-_", 4)
		to := anyText(dice, "aB.!", 4) + anyText(dice, "@@@>", 1) + domain
		many, now, message := dice.Intn(12)-3, anyMoment(dice), anyText(dice, "m\r\n", 6)
		if got, want := stampOf(domain, other, many, now, message), modelStamp(domain, other, many, now, message); got != want {
			t.Fatalf("Stamp(%q, %q, %d, %d, %q) answers %v, not %v", domain, other, many, now, message, got, want)
		}
		names := strings.Split(anyText(dice, "an,", 6), ",")
		if got, want := bounceOf(domain, to, many, names, now, message), modelBounce(domain, to, many, names, now, message); got != want {
			t.Fatalf("Bounce(%q, %q, %d, %q, %d, %q) answers %v, not %v", domain, to, many, names, now, message, got, want)
		}
	}
}
