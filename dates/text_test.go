package dates_test

import (
	"regexp"
	"strconv"
	"strings"
	"testing"
	"time"

	"postbag/api"
	"postbag/dates"
)

// P1.1
func TestWriting(t *testing.T) {
	for _, k := range []struct {
		moment                   int
		mail, box, internal, day string
	}{
		{0, "Thu, 01 Jan 1970 00:00:00 +0000", "Thu Jan  1 00:00:00 1970", " 1-Jan-1970 00:00:00 +0000", "1-Jan-1970"},
		{951782400 + 3723, "Tue, 29 Feb 2000 01:02:03 +0000", "Tue Feb 29 01:02:03 2000", "29-Feb-2000 01:02:03 +0000", "29-Feb-2000"},
		{86400*9 - 1, "Fri, 09 Jan 1970 23:59:59 +0000", "Fri Jan  9 23:59:59 1970", " 9-Jan-1970 23:59:59 +0000", "9-Jan-1970"},
		{86400 * 9, "Sat, 10 Jan 1970 00:00:00 +0000", "Sat Jan 10 00:00:00 1970", "10-Jan-1970 00:00:00 +0000", "10-Jan-1970"},
		{api.MaxTime, "Thu, 31 Dec 2099 23:59:59 +0000", "Thu Dec 31 23:59:59 2099", "31-Dec-2099 23:59:59 +0000", "31-Dec-2099"},
	} {
		same(t, "Mail", dates.Mail, k.moment, k.mail)
		same(t, "Box", dates.Box, k.moment, k.box)
		same(t, "Internal", dates.Internal, k.moment, k.internal)
		same(t, "Day", dates.Day, k.moment, k.day)
	}
}

func same(t *testing.T, name string, write func(int) (string, error), moment int, want string) {
	t.Helper()
	if s, err := write(moment); err != nil || s != want {
		t.Fatalf("%s(%d) answers %q, %v, not %q", name, moment, s, err, want)
	}
}

// P1.1
func TestWritingOfEveryDay(t *testing.T) {
	eachMoment(func(n int) {
		at := clockOf(n)
		same(t, "Mail", dates.Mail, n, at.Format("Mon, 02 Jan 2006 15:04:05 -0700"))
		same(t, "Box", dates.Box, n, at.Format("Mon Jan _2 15:04:05 2006"))
		same(t, "Internal", dates.Internal, n, at.Format("_2-Jan-2006 15:04:05 -0700"))
		same(t, "Day", dates.Day, n, at.Format("2-Jan-2006"))
	})
}

// P1.1
func TestWritingOfWrongMoments(t *testing.T) {
	for i, write := range []func(int) (string, error){dates.Mail, dates.Box, dates.Internal, dates.Day} {
		for _, n := range wrongMoments {
			if s, err := write(n); err != api.ErrRange || s != "" {
				t.Errorf("text %d of %d is %q, %v", i, n, s, err)
			}
		}
	}
}

// P1.2
func TestReadingOfWhatIsWritten(t *testing.T) {
	eachMoment(func(n int) {
		back(t, dates.Internal, dates.ParseInternal, n, n)
		back(t, dates.Mail, dates.ParseMail, n, n)
		back(t, dates.Day, dates.ParseDay, n, n-n%86400)
	})
}

func back(t *testing.T, write func(int) (string, error), parse func(string) (int, error), moment, want int) {
	t.Helper()
	s, err := write(moment)
	if err != nil {
		t.Fatalf("%d isn't written: %v", moment, err)
	}
	if n, err := parse(s); err != nil || n != want {
		t.Fatalf("%q is read as %d, %v, not %d", s, n, err, want)
	}
}

// reading is a text, and what is to be answered of it.
type reading struct {
	text   string
	moment int
	err    error
}

func checkReadings(t *testing.T, parse func(string) (int, error), all []reading) {
	t.Helper()
	for _, k := range all {
		if n, err := parse(k.text); err != k.err || n != k.moment {
			t.Errorf("%q is read as %d, %v, not %d, %v", k.text, n, err, k.moment, k.err)
		}
	}
}

// P1.1
func TestParseInternal(t *testing.T) {
	const last = api.MaxTime
	checkReadings(t, dates.ParseInternal, []reading{
		{" 1-Jan-1970 00:00:00 +0000", 0, nil},
		{" 1-Jan-1970 01:30:00 +0100", 1800, nil},
		{"31-Dec-2099 23:59:59 +0000", last, nil},
		{"31-Dec-2099 23:59:59 -0000", last, nil},
		{"29-Feb-2000 00:00:00 +0000", 951782400, nil},
		// zones of both signs, up to 23 hours and 59 minutes
		{" 1-Jan-1970 23:59:00 +2359", 0, nil},
		{" 1-Jan-1970 23:58:59 +2359", 0, api.ErrRange},
		{" 1-Jan-1970 00:00:00 -2359", 86340, nil},
		{" 1-Jan-1970 00:00:00 +0001", 0, api.ErrRange},
		{"31-Dec-2099 00:00:59 -2359", last, nil},
		{"31-Dec-2099 00:01:00 -2359", 0, api.ErrRange},
		{"31-Dec-2099 23:59:59 +2359", last - 86340, nil},
		{"31-Dec-2099 23:59:59 -0001", 0, api.ErrRange},
		{" 1-Jan-1970 00:00:00 +2400", 0, api.ErrForm},
		{" 1-Jan-1970 00:00:00 -2400", 0, api.ErrForm},
		{" 2-Jan-1970 00:00:00 +0060", 0, api.ErrForm},
		{" 2-Jan-1970 00:00:00 -0060", 0, api.ErrForm},
		{" 2-Jan-1970 00:00:00 +9999", 0, api.ErrForm},
		// a date that isn't right has no moment, wherever its zone leads
		{"31-Dec-1969 23:30:00 -0100", 0, api.ErrRange},
		{" 1-Jan-2100 00:30:00 +0100", 0, api.ErrRange},
		{" 0-Jan-1970 00:00:00 +0000", 0, api.ErrRange},
		{"32-Jan-1970 00:00:00 +0000", 0, api.ErrRange},
		{"99-Jan-1970 00:00:00 +0000", 0, api.ErrRange},
		{"29-Feb-1970 00:00:00 +0000", 0, api.ErrRange},
		{"30-Feb-2000 00:00:00 +0000", 0, api.ErrRange},
		{"31-Apr-2000 00:00:00 +0000", 0, api.ErrRange},
		{" 1-Jan-0000 00:00:00 +0000", 0, api.ErrRange},
		{" 1-Jan-9999 00:00:00 +0000", 0, api.ErrRange},
		{" 1-Jan-1970 24:00:00 +0000", 0, api.ErrRange},
		{" 1-Jan-1970 00:60:00 +0000", 0, api.ErrRange},
		{" 1-Jan-1970 00:00:60 +0000", 0, api.ErrRange},
		{" 1-Jan-1970 99:99:99 -0000", 0, api.ErrRange},
		// the form is asked ahead of the range
		{"99-Jan-1970 00:00:00 +2400", 0, api.ErrForm},
		{"99-Jan-1970 99:99:99 +0000 ", 0, api.ErrForm},
		{" 1-Jan-9999 00:00:00 0000", 0, api.ErrForm},
		// the day in two places
		{"10-Jan-1970 00:00:00 +0000", 9 * 86400, nil},
		{"01-Jan-1970 00:00:00 +0000", 0, api.ErrForm},
		{"00-Jan-1970 00:00:00 +0000", 0, api.ErrForm},
		{"1-Jan-1970 00:00:00 +0000", 0, api.ErrForm},
		{"\t1-Jan-1970 00:00:00 +0000", 0, api.ErrForm},
		{"  1-Jan-1970 00:00:00 +0000", 0, api.ErrForm},
		{"1 -Jan-1970 00:00:00 +0000", 0, api.ErrForm},
		// other forms
		{"", 0, api.ErrForm},
		{" ", 0, api.ErrForm},
		{" 1-jan-1970 00:00:00 +0000", 0, api.ErrForm},
		{" 1-JAN-1970 00:00:00 +0000", 0, api.ErrForm},
		{" 1-anF-1970 00:00:00 +0000", 0, api.ErrForm},
		{" 1 Jan 1970 00:00:00 +0000", 0, api.ErrForm},
		{" 1-Jan-1970\t00:00:00 +0000", 0, api.ErrForm},
		{" 1-Jan-1970  00:00:00 +0000", 0, api.ErrForm},
		{" 1-Jan-1970 00:00:00  +0000", 0, api.ErrForm},
		{" 1-Jan-1970 00:00 +0000", 0, api.ErrForm},
		{" 1-Jan-1970 0:00:00 +0000", 0, api.ErrForm},
		{" 1-Jan-1970 00:00:00", 0, api.ErrForm},
		{" 1-Jan-1970 00:00:00 +000", 0, api.ErrForm},
		{" 1-Jan-1970 00:00:00 +00000", 0, api.ErrForm},
		{" 1-Jan-1970 00:00:00 +0000\n", 0, api.ErrForm},
		{" 1-Jan-1970 00:00:00 +0000\x00", 0, api.ErrForm},
		{" 1-Jan-1970 00:00:00 GMT", 0, api.ErrForm},
		{" 1-Jan-19700 00:00:00 +0000", 0, api.ErrForm},
		{" 1-Jan-70 00:00:00 +0000", 0, api.ErrForm},
		{" \u0661-Jan-1970 00:00:00 +0000", 0, api.ErrForm},
	})
}

// P1.1
func TestParseDay(t *testing.T) {
	checkReadings(t, dates.ParseDay, []reading{
		{"1-Jan-1970", 0, nil},
		{"01-Jan-1970", 0, nil},
		{"2-Jan-1970", 86400, nil},
		{"02-Jan-1970", 86400, nil},
		{"29-Feb-2000", 951782400, nil},
		{"31-Dec-2099", api.MaxTime - 86399, nil},
		{"31-Dec-1969", 0, api.ErrRange},
		{"1-Jan-2100", 0, api.ErrRange},
		{"0-Jan-1970", 0, api.ErrRange},
		{"00-Jan-1970", 0, api.ErrRange},
		{"32-Jan-1970", 0, api.ErrRange},
		{"99-Dec-2099", 0, api.ErrRange},
		{"29-Feb-2001", 0, api.ErrRange},
		{"30-Feb-2000", 0, api.ErrRange},
		{"31-Jun-2000", 0, api.ErrRange},
		{"1-Jan-0000", 0, api.ErrRange},
		{"1-Jan-9999", 0, api.ErrRange},
		{"", 0, api.ErrForm},
		{"1", 0, api.ErrForm},
		{"1-Jan", 0, api.ErrForm},
		{"1-Jan-", 0, api.ErrForm},
		{"-Jan-1970", 0, api.ErrForm},
		{" 1-Jan-1970", 0, api.ErrForm},
		{"1-Jan-1970 ", 0, api.ErrForm},
		{"001-Jan-1970", 0, api.ErrForm},
		{"1-jan-1970", 0, api.ErrForm},
		{"1-JAN-1970", 0, api.ErrForm},
		{"1-1-1970", 0, api.ErrForm},
		{"1-January-1970", 0, api.ErrForm},
		{"1-Jan-70", 0, api.ErrForm},
		{"1-Jan-01970", 0, api.ErrForm},
		{"1-Jan-+970", 0, api.ErrForm},
		{"1 Jan 1970", 0, api.ErrForm},
		{"99-Jan-197", 0, api.ErrForm},
		{"1-Jan-1970 00:00:00 +0000", 0, api.ErrForm},
	})
}

// P1.1
func TestParseMail(t *testing.T) {
	const last = api.MaxTime
	checkReadings(t, dates.ParseMail, []reading{
		{"Thu, 01 Jan 1970 00:00:00 +0000", 0, nil},
		{"Thu, 1 Jan 1970 00:01 -0000", 60, nil},
		{"1 Jan 1970 00:00:59 +0000", 59, nil},
		{"29 Feb 2000 00:00 +0000", 951782400, nil},
		{"31 Dec 2099 23:59:59 +0000", last, nil},
		{"31 Dec 2099 23:59 +0000", last - 59, nil},
		// any day's name will do
		{"Sun, 1 Jan 1970 00:00:00 +0000", 0, nil},
		{"Mon, 1 Jan 1970 00:00:00 +0000", 0, nil},
		{"Tue, 1 Jan 1970 00:00:00 +0000", 0, nil},
		{"Wed, 1 Jan 1970 00:00:00 +0000", 0, nil},
		{"Fri, 1 Jan 1970 00:00:00 +0000", 0, nil},
		{"Sat, 1 Jan 1970 00:00:00 +0000", 0, nil},
		// blanks
		{" \t Thu \t , \t 1 \t Jan \t 1970 \t 00:00:01 \t +0000 \t ", 1, nil},
		{"\tThu,1\tJan\t1970\t00:00:01\t+0000\t", 1, nil},
		{"Thu,1 Jan 1970 00:00:01 +0000", 1, nil},
		{"Thu ,1 Jan 1970 00:00:01 +0000", 1, nil},
		{"  1 Jan 1970 00:00:01 +0000  ", 1, nil},
		{"Thu, 1Jan 1970 00:00:00 +0000", 0, api.ErrForm},
		{"Thu, 1 Jan1970 00:00:00 +0000", 0, api.ErrForm},
		{"Thu, 1 Jan 197000:00:00 +0000", 0, api.ErrForm},
		{"Thu, 1 Jan 1970 00:00:00+0000", 0, api.ErrForm},
		{"Thu, 1 Jan 1970 00:00+0000", 0, api.ErrForm},
		{"Thu, 1 Jan 1970 00 :00:00 +0000", 0, api.ErrForm},
		{"Thu, 1 Jan 1970 00:00: 00 +0000", 0, api.ErrForm},
		{"Thu, 1 Jan 1970 00:00 :00 +0000", 0, api.ErrForm},
		{"Thu, 1 Jan 1970 00:00:00 + 0000", 0, api.ErrForm},
		{"Thu, 1 Jan 1970 00:00:00\n+0000", 0, api.ErrForm},
		{"\rThu, 1 Jan 1970 00:00:00 +0000", 0, api.ErrForm},
		{"Thu, 1 Jan 1970 00:00:00 +0000\r\n", 0, api.ErrForm},
		// zones
		{"1 Jan 1970 23:59 +2359", 0, nil},
		{"1 Jan 1970 23:58 +2359", 0, api.ErrRange},
		{"1 Jan 1970 00:00 -2359", 86340, nil},
		{"31 Dec 2099 00:00:59 -2359", last, nil},
		{"31 Dec 2099 00:01 -2359", 0, api.ErrRange},
		{"1 Jan 1970 00:00 +2400", 0, api.ErrForm},
		{"1 Jan 1970 00:00 -0060", 0, api.ErrForm},
		{"1 Jan 1970 00:00 GMT", 0, api.ErrForm},
		{"1 Jan 1970 00:00 0000", 0, api.ErrForm},
		{"1 Jan 1970 00:00 +000", 0, api.ErrForm},
		{"1 Jan 1970 00:00 +00000", 0, api.ErrForm},
		{"1 Jan 1970 00:00 +0000 (x)", 0, api.ErrForm},
		{"1 Jan 1970 00:00", 0, api.ErrForm},
		{"1 Jan 1970 00:00 ", 0, api.ErrForm},
		// dates that aren't right
		{"31 Dec 1969 23:59 -0100", 0, api.ErrRange},
		{"1 Jan 2100 00:00 +0100", 0, api.ErrRange},
		{"0 Jan 1970 00:00 +0000", 0, api.ErrRange},
		{"00 Jan 1970 00:00 +0000", 0, api.ErrRange},
		{"32 Jan 1970 00:00 +0000", 0, api.ErrRange},
		{"29 Feb 2001 00:00 +0000", 0, api.ErrRange},
		{"31 Sep 2001 00:00 +0000", 0, api.ErrRange},
		{"1 Jan 0000 00:00 +0000", 0, api.ErrRange},
		{"1 Jan 1970 24:00 +0000", 0, api.ErrRange},
		{"1 Jan 1970 00:60 +0000", 0, api.ErrRange},
		{"1 Jan 1970 00:00:60 +0000", 0, api.ErrRange},
		{"99 Jan 1970 00:00 +2400", 0, api.ErrForm},
		// other forms
		{"", 0, api.ErrForm},
		{" \t ", 0, api.ErrForm},
		{"Thu", 0, api.ErrForm},
		{"Thu,", 0, api.ErrForm},
		{", 1 Jan 1970 00:00 +0000", 0, api.ErrForm},
		{"Thu 1 Jan 1970 00:00 +0000", 0, api.ErrForm},
		{"Thu,, 1 Jan 1970 00:00 +0000", 0, api.ErrForm},
		{"Thu, Fri, 1 Jan 1970 00:00 +0000", 0, api.ErrForm},
		{"thu, 1 Jan 1970 00:00 +0000", 0, api.ErrForm},
		{"THU, 1 Jan 1970 00:00 +0000", 0, api.ErrForm},
		{"Thursday, 1 Jan 1970 00:00 +0000", 0, api.ErrForm},
		{"unM, 1 Jan 1970 00:00 +0000", 0, api.ErrForm},
		{"Jan, 1 Jan 1970 00:00 +0000", 0, api.ErrForm},
		{"1 jan 1970 00:00 +0000", 0, api.ErrForm},
		{"1 JAN 1970 00:00 +0000", 0, api.ErrForm},
		{"1 January 1970 00:00 +0000", 0, api.ErrForm},
		{"1 anF 1970 00:00 +0000", 0, api.ErrForm},
		{"001 Jan 1970 00:00 +0000", 0, api.ErrForm},
		{"1 Jan 70 00:00 +0000", 0, api.ErrForm},
		{"1 Jan 19700 00:00 +0000", 0, api.ErrForm},
		{"1 Jan 1970 0:00 +0000", 0, api.ErrForm},
		{"1 Jan 1970 00:0 +0000", 0, api.ErrForm},
		{"1 Jan 1970 00 +0000", 0, api.ErrForm},
		{"1 Jan 1970 00:00:0 +0000", 0, api.ErrForm},
		{"1 Jan 1970 00:00: +0000", 0, api.ErrForm},
		{"1 Jan 1970 00:00:00:00 +0000", 0, api.ErrForm},
		{"1 Jan 1970 00:00:00.5 +0000", 0, api.ErrForm},
		{"1-Jan-1970 00:00:00 +0000", 0, api.ErrForm},
		{"\xff, 1 Jan 1970 00:00 +0000", 0, api.ErrForm},
	})
}

const (
	monthWords = `(Jan|Feb|Mar|Apr|May|Jun|Jul|Aug|Sep|Oct|Nov|Dec)`
	zoneWords  = `([+-])([01][0-9]|2[0-3])([0-5][0-9])`
)

// The document's forms once more, as patterns: day, month, year, then (not of a day) hour, minute, second, and the zone's sign, hours, minutes.
var (
	internalForm = regexp.MustCompile(`\A( [0-9]|[1-9][0-9])-` + monthWords + `-([0-9]{4}) ([0-9]{2}):([0-9]{2}):([0-9]{2}) ` + zoneWords + `\z`)
	dayForm      = regexp.MustCompile(`\A([0-9]{1,2})-` + monthWords + `-([0-9]{4})\z`)
	mailForm     = regexp.MustCompile(`\A[ \t]*(?:(?:Sun|Mon|Tue|Wed|Thu|Fri|Sat)[ \t]*,[ \t]*)?([0-9]{1,2})[ \t]+` + monthWords + `[ \t]+([0-9]{4})[ \t]+([0-9]{2}):([0-9]{2})(?::([0-9]{2}))?[ \t]+` + zoneWords + `[ \t]*\z`)
)

// expected is what the document asks of a text, by a pattern and the library's calendar.
func expected(form *regexp.Regexp, s string) (int, error) {
	m := form.FindStringSubmatch(s)
	if m == nil {
		return 0, api.ErrForm
	}
	number := func(i int) int {
		if i >= len(m) {
			return 0
		}
		n, _ := strconv.Atoi(strings.TrimSpace(m[i]))
		return n
	}
	month := strings.Index(monthWords, m[2])/4 + 1
	at := time.Date(number(3), time.Month(month), number(1), number(4), number(5), number(6), 0, time.UTC)
	if at.Year() < 1970 || at.Year() > 2099 || at.Day() != number(1) || at.Hour() != number(4) || at.Minute() != number(5) || at.Second() != number(6) {
		return 0, api.ErrRange
	}
	n := int(at.Unix())
	if ahead := number(8)*3600 + number(9)*60; len(m) > 7 && m[7] == "-" {
		n += ahead
	} else {
		n -= ahead
	}
	if n < 0 || n > api.MaxTime {
		return 0, api.ErrRange
	}
	return n, nil
}

// eachChange tells look of s and of every text that has one byte more, less or other than s.
func eachChange(s string, look func(string)) {
	look(s)
	for i := 0; i <= len(s); i++ {
		for b := 0; b < 256; b++ {
			look(s[:i] + string([]byte{byte(b)}) + s[i:])
			if i < len(s) {
				look(s[:i] + string([]byte{byte(b)}) + s[i+1:])
			}
		}
		if i < len(s) {
			look(s[:i] + s[i+1:])
			look(s[:i])
		}
	}
}

// eachTwoChanges makes two changes, with few bytes.
func eachTwoChanges(s string, look func(string)) {
	for i := 0; i < len(s); i++ {
		for j := i + 1; j < len(s); j++ {
			for _, a := range "09 :-+" {
				for _, b := range "29\t,:-+" {
					look(s[:i] + string(a) + s[i+1:j] + string(b) + s[j+1:])
				}
			}
			look(s[:i] + s[i+1:j] + s[j+1:])
		}
	}
}

// P1.1
func TestReadingOfChangedTexts(t *testing.T) {
	for _, k := range []struct {
		form  *regexp.Regexp
		parse func(string) (int, error)
		texts []string
	}{
		{internalForm, dates.ParseInternal, []string{" 1-Jan-1970 00:00:00 +0000", "29-Feb-2000 23:59:59 -2359", "31-Dec-2099 12:34:56 +0130"}},
		{dayForm, dates.ParseDay, []string{"1-Jan-1970", "29-Feb-2000", "31-Dec-2099"}},
		{mailForm, dates.ParseMail, []string{"Thu, 1 Jan 1970 00:00:00 +0000", "28 Feb 2001 23:59 -2359", " \tSun , 31  Dec\t2099 23:59:59 +0130 "}},
	} {
		look := func(s string) {
			want, wantErr := expected(k.form, s)
			if n, err := k.parse(s); err != wantErr || n != want {
				t.Fatalf("%q is read as %d, %v, not %d, %v", s, n, err, want, wantErr)
			}
		}
		for _, s := range k.texts {
			eachChange(s, look)
			eachTwoChanges(s, look)
		}
	}
}

// P1.1
func TestReadingOfLongTexts(t *testing.T) {
	const many = 1 << 20
	blanks := strings.Repeat(" \t", many)
	checkReadings(t, dates.ParseMail, []reading{
		{blanks + "1" + blanks + "Jan" + blanks + "1970" + blanks + "00:00:07" + blanks + "+0000" + blanks, 7, nil},
		{blanks, 0, api.ErrForm},
		{strings.Repeat("1", many), 0, api.ErrForm},
		{strings.Repeat("Thu,", many), 0, api.ErrForm},
	})
	checkReadings(t, dates.ParseInternal, []reading{{blanks, 0, api.ErrForm}})
	checkReadings(t, dates.ParseDay, []reading{{strings.Repeat("9", many), 0, api.ErrForm}})
}
