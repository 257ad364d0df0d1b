package mbox_test

import (
	"math/rand"
	"regexp"
	"strings"
	"testing"
	"time"

	"postbag/api"
	"postbag/mbox"
)

// P7.1
func TestSeparator(t *testing.T) {
	long := strings.Repeat("s", 200)
	for _, k := range []struct {
		line, sender string
		t            int
	}{
		{"From a@b Thu Jan  1 00:00:00 1970\n", "a@b", 0},
		{"From ! Thu Dec 31 23:59:59 2099\n", "!", api.MaxTime},
		{"From ~ Tue Feb 29 00:00:00 2000\n", "~", 951782400},
		{"From From Sat Jan 10 00:00:00 1970\n", "From", 9 * 86400},
		{"From <> Thu Jan  1 00:01:01 1970\n", "<>", 61},
		{"From " + long + " Thu Jan  1 01:00:00 1970\n", long, 3600},
	} {
		if sender, moment, err := mbox.Separator(k.line); err != nil || sender != k.sender || moment != k.t {
			t.Errorf("Separator(%q) answers %q, %d, %v", k.line, sender, moment, err)
		}
		checkSeparator(t, k.line)
	}
}

// P7.1
func TestSeparatorRefuses(t *testing.T) {
	for _, line := range []string{
		"",
		"\n",
		"From ",
		"From \n",
		"From a\n",
		"From a \n",
		"From a@b Thu Jan  1 00:00:00 1970",
		"From a@b Thu Jan  1 00:00:00 1970\r\n",
		"From a@b Thu Jan  1 00:00:00 1970 \n",
		"From a@b Thu Jan  1 00:00:00 1970\n\n",
		"From a@b Thu Jan  1 00:00:00 1970\nx\n",
		"From a@b Thu Jan  1 00:00:00 1970 +0000\n",
		">From a@b Thu Jan  1 00:00:00 1970\n",
		"from a@b Thu Jan  1 00:00:00 1970\n",
		"From  Thu Jan  1 00:00:00 1970\n",
		"From   Thu Jan  1 00:00:00 1970\n",
		"From Thu Jan  1 00:00:00 1970\n",
		"From  a@b Thu Jan  1 00:00:00 1970\n",
		"From a@b  Thu Jan  1 00:00:00 1970\n",
		"From a b Thu Jan  1 00:00:00 1970\n",
		"From a\tb Thu Jan  1 00:00:00 1970\n",
		"From é Thu Jan  1 00:00:00 1970\n",
		"From \x7f Thu Jan  1 00:00:00 1970\n",
		"From " + strings.Repeat("s", 201) + " Thu Jan  1 00:00:00 1970\n",
		"From a@b Fri Jan  1 00:00:00 1970\n",
		"From a@b thu Jan  1 00:00:00 1970\n",
		"From a@b Thu jan  1 00:00:00 1970\n",
		"From a@b Thu Jan 01 00:00:00 1970\n",
		"From a@b Thu Jan 1 00:00:00 1970\n",
		"From a@b Thu Jan  0 00:00:00 1970\n",
		"From a@b Thu Jan 32 00:00:00 1970\n",
		"From a@b Thu Feb 29 00:00:00 1970\n",
		"From a@b Sun Feb 29 00:00:00 1970\n",
		"From a@b Thu Jan  1 24:00:00 1970\n",
		"From a@b Thu Jan  1 00:60:00 1970\n",
		"From a@b Thu Jan  1 00:00:60 1970\n",
		"From a@b Thu Jan  1 00:00 1970\n",
		"From a@b Wed Dec 31 23:59:59 1969\n",
		"From a@b Fri Jan  1 00:00:00 2100\n",
		"From a@b Thu-Jan- 1-00:00:00-1970\n",
		"From a@b ThuxJanx 1x00:00:00x1970\n",
		"From a@b Thu, 01 Jan 1970 00:00:00 +0000\n",
		"From " + strings.Repeat("a ", 1<<20) + "\n",
		strings.Repeat("From ", 1<<20),
	} {
		if sender, moment, err := mbox.Separator(line); err != api.ErrForm || sender != "" || moment != 0 {
			t.Errorf("Separator(%.80q) answers %q, %d, %v", line, sender, moment, err)
		}
		checkSeparator(t, line)
	}
}

// P7.1: every change of one byte of right lines: another one for it, one more, one less.
func TestSeparatorOfEveryNearLine(t *testing.T) {
	for _, line := range []string{
		"From a@b Thu Jan  1 00:00:00 1970\n",
		"From x Thu Dec 31 23:59:59 2099\n",
		"From From Tue Feb 29 10:20:30 2000\n",
		"From " + strings.Repeat("s", 200) + " Thu Jan  1 00:00:00 1970\n",
	} {
		for at := range len(line) + 1 {
			if at < len(line) {
				checkSeparator(t, line[:at]+line[at+1:])
			}
			for b := range 256 {
				one := string([]byte{byte(b)})
				checkSeparator(t, line[:at]+one+line[at:])
				if at < len(line) {
					checkSeparator(t, line[:at]+one+line[at+1:])
				}
			}
		}
	}
}

// P7.1: every day there is, at a moment of its own.
func TestSeparatorOfEveryDay(t *testing.T) {
	random := rand.New(rand.NewSource(17))
	for day := 0; day <= api.MaxTime/86400; day++ {
		moment := day*86400 + random.Intn(86400)
		want := "From a " + time.Unix(int64(moment), 0).UTC().Format(time.ANSIC) + "\n"
		entry, err := mbox.Entry("a", moment, "")
		if err != nil || entry != want+"\n" {
			t.Fatalf("Entry at %d answers %q, %v, not %q", moment, entry, err, want)
		}
		if sender, got, err := mbox.Separator(want); err != nil || sender != "a" || got != moment {
			t.Fatalf("Separator(%q) answers %q, %d, %v, not %d", want, sender, got, err, moment)
		}
	}
}

func FuzzSeparator(f *testing.F) {
	f.Add("From a@b Thu Jan  1 00:00:00 1970\n")
	f.Add("From x Tue Feb 29 10:20:30 2000\n")
	f.Fuzz(checkSeparator)
}

// checkSeparator holds Separator against the library's reading of such dates, and against what Entry writes.
func checkSeparator(t *testing.T, line string) {
	t.Helper()
	want, moment, inForm := modelSeparator(line)
	sender, got, err := mbox.Separator(line)
	if !inForm {
		if err != api.ErrForm || sender != "" || got != 0 {
			t.Fatalf("Separator(%.80q) answers %q, %d, %v", line, sender, got, err)
		}
		return
	}
	if err != nil || sender != want || got != moment {
		t.Fatalf("Separator(%.80q) answers %q, %d, %v, not %q, %d", line, sender, got, err, want, moment)
	}
	if entry, err := mbox.Entry(sender, got, ""); err != nil || entry != line+"\n" {
		t.Fatalf("Entry of what Separator says of %q is %q, %v", line, entry, err)
	}
}

var separatorForm = regexp.MustCompile(`^From ([!-~]{1,200}) ([A-Z][a-z][a-z] [A-Z][a-z][a-z] [ 0-9][0-9] [0-9]{2}:[0-9]{2}:[0-9]{2} [0-9]{4})\n$`)

func modelSeparator(line string) (sender string, moment int, inForm bool) {
	found := separatorForm.FindStringSubmatch(line)
	if found == nil {
		return "", 0, false
	}
	date, err := time.Parse(time.ANSIC, found[2])
	if err != nil || date.Format(time.ANSIC) != found[2] {
		return "", 0, false
	}
	moment = int(date.Unix())
	if moment < 0 || moment > api.MaxTime {
		return "", 0, false
	}
	return found[1], moment, true
}
