package retry_test

import (
	"fmt"
	"math/rand"
	"regexp"
	"strings"
	"time"

	"postbag/api"
)

// The chapter's sentences, said a second way: expressions for names, the library's dates, formats for texts.
var (
	modelDomain = regexp.MustCompile(`\A[A-Za-z0-9]([A-Za-z0-9-]*[A-Za-z0-9])?(\.[A-Za-z0-9]([A-Za-z0-9-]*[A-Za-z0-9])?)*\z`)
	modelLocal  = regexp.MustCompile("\\A[A-Za-z0-9!#$%&'*+/=?^_`{|}~-]+(\\.[A-Za-z0-9!#$%&'*+/=?^_`{|}~-]+)*\\z")
)

func isDomain(s string) bool {
	return len(s) <= 100 && modelDomain.MatchString(s)
}

// isReturn tells whether a bounce can go to a text. A local part has no "@".
func isReturn(s string) bool {
	local, domain, cut := strings.Cut(s, "@")
	return cut && len(local) <= 64 && modelLocal.MatchString(local) && isDomain(domain)
}

func isMoment(now int) bool {
	return now >= 0 && now <= 4102444799
}

func dateText(now int) string {
	return time.Unix(int64(now), 0).UTC().Format("Mon, 02 Jan 2006 15:04:05 -0700")
}

type next struct {
	due     int
	expired bool
	err     error
}

func modelNext(tries, now int) next {
	wait := map[int]int{1: 60, 2: 300, 3: 1800, 4: 7200}[tries+1]
	switch {
	case tries < 0 || tries > 4 || !isMoment(now):
		return next{err: api.ErrRange}
	case wait == 0:
		return next{expired: true}
	case 4102444799-now < wait:
		return next{due: 4102444799}
	}
	return next{due: now + wait}
}

func modelMost(now int) int {
	if !isMoment(now) {
		return 0
	}
	return min(60+300+1800+7200, 4102444799-now)
}

type told struct {
	text string
	err  error
}

// String is short, and has no bytes that a terminal wouldn't show.
func (t told) String() string {
	return fmt.Sprintf("%.600q, %v", t.text, t.err)
}

func modelStamp(greeting, domain string, many, now int, message string) told {
	switch {
	case !isMoment(now), many < 1:
		return told{err: api.ErrRange}
	case !isDomain(greeting), !isDomain(domain):
		return told{err: api.ErrName}
	}
	return told{text: fmt.Sprintf("Received: from %s by %s\r\n\tfor 1 of %d; %s\r\n%s", greeting, domain, many, dateText(now), message)}
}

func modelBounce(domain, to string, id int, names []string, now int, message string) told {
	switch {
	case !isMoment(now), id < 1:
		return told{err: api.ErrRange}
	case !isDomain(domain), !isReturn(to):
		return told{err: api.ErrName}
	}
	lines := []string{
		fmt.Sprintf("From: MAILER-DAEMON@%s", domain),
		fmt.Sprintf("To: %s", to),
		"Subject: Undelivered",
		fmt.Sprintf("Date: %s", dateText(now)),
		fmt.Sprintf("Message-ID: <bounce.%d@%s>", id, domain),
		"",
		"Not delivered to:",
	}
	for _, name := range names {
		lines = append(lines, " "+name)
	}
	lines = append(lines, "", "")
	if len(message) > 2000 {
		message = message[:2000]
	}
	return told{text: strings.Join(lines, "\r\n") + message}
}

// modelDue takes what isn't due out of a list of all.
func modelDue(s api.State, now int) []int {
	var ids []int
	for i := len(s.Queue) - 1; i >= 0; i-- {
		if !(s.Queue[i].Due > now) {
			ids = append([]int{s.Queue[i].Id}, ids...)
		}
	}
	return ids
}

// smallLetters makes capital letters small ones, and leaves all other bytes.
func smallLetters(s string) string {
	b := []byte(s)
	for i := range b {
		if at := strings.IndexByte("ABCDEFGHIJKLMNOPQRSTUVWXYZ", b[i]); at >= 0 {
			b[i] = "abcdefghijklmnopqrstuvwxyz"[at]
		}
	}
	return string(b)
}

func modelHome(p api.Path, domain string, accounts []api.Account) int {
	home := -1
	for i := len(accounts) - 1; i >= 0; i-- {
		if accounts[i].Name == p.Local && smallLetters(p.Domain) == smallLetters(domain) {
			home = i
		}
	}
	return home
}

// anyText is a text of up to most of these bytes.
func anyText(dice *rand.Rand, letters string, most int) string {
	b := make([]byte, dice.Intn(most+1))
	for i := range b {
		b[i] = letters[dice.Intn(len(letters))]
	}
	return string(b)
}

// anyMoment is often near an end of the range.
func anyMoment(dice *rand.Rand) int {
	switch dice.Intn(4) {
	case 0:
		return dice.Intn(20000) - 10000
	case 1:
		return api.MaxTime + dice.Intn(20000) - 10000
	}
	return dice.Intn(api.MaxTime + 1)
}
