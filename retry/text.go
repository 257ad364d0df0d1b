package retry

import (
	"strconv"
	"strings"

	"postbag/api"
	"postbag/dates"
	"postbag/path"
)

const (
	lineEnd  = "\r\n"
	mostBack = 2000 // bytes of a message that its bounce has
)

// Stamp is a stamped message.
func Stamp(greeting, domain string, many, now int, message string) (string, error) {
	date, err := dates.Mail(now)
	if err != nil || many < 1 {
		return "", api.ErrRange
	}
	if !path.Domain(greeting) || !path.Domain(domain) {
		return "", api.ErrName
	}
	received := "Received: from " + greeting + " by " + domain + lineEnd +
		"\tfor 1 of " + strconv.Itoa(many) + "; " + date + lineEnd
	return received + message, nil
}

// Bounce is what is sent back.
func Bounce(domain, to string, id int, names []string, now int, message string) (string, error) {
	date, err := dates.Mail(now)
	if err != nil || id < 1 {
		return "", api.ErrRange
	}
	if !path.Domain(domain) || !isBare(to) {
		return "", api.ErrName
	}
	var b strings.Builder
	line := func(text string) { b.WriteString(text + lineEnd) }
	line("From: MAILER-DAEMON@" + domain)
	line("To: " + to)
	line("Subject: Undelivered")
	line("Date: " + date)
	line("Message-ID: <bounce." + strconv.Itoa(id) + "@" + domain + ">")
	line("")
	line("Not delivered to:")
	for _, name := range names {
		line(" " + name)
	}
	line("")
	b.WriteString(message[:min(len(message), mostBack)])
	return b.String(), nil
}

// isBare tells whether a text is what layer 8's Bare writes of a path, but of nobody's.
func isBare(text string) bool {
	_, err := path.Parse("<" + text + ">")
	return err == nil && text != ""
}
