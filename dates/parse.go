package dates

import (
	"strings"

	"postbag/api"
)

// ParseInternal is the moment of IMAP's text.
func ParseInternal(s string) (int, error) {
	return parsed(s, func(r *reader) {
		r.dayInTwoPlaces()
		r.mark('-')
		r.month()
		r.mark('-')
		r.year()
		r.mark(' ')
		r.hourAndMinute()
		r.second()
		r.mark(' ')
		r.zone()
	})
}

// ParseDay is the first moment of a day.
func ParseDay(s string) (int, error) {
	return parsed(s, func(r *reader) {
		r.day()
		r.mark('-')
		r.month()
		r.mark('-')
		r.year()
	})
}

// ParseMail is the moment of a date field's text.
func ParseMail(s string) (int, error) {
	return parsed(s, func(r *reader) {
		r.skipBlanks()
		if !r.atDigit() {
			r.dayOfWeek()
		}
		r.day()
		r.blanks()
		r.month()
		r.blanks()
		r.year()
		r.blanks()
		r.hourAndMinute()
		if r.at(':') {
			r.second()
		}
		r.blanks()
		r.zone()
		r.skipBlanks()
	})
}

// parsed is the moment that read finds in s. What isn't in form is found deep within read: a panic leads out of there.
func parsed(s string, read func(r *reader)) (t int, err error) {
	defer func() {
		if recover() != nil {
			t, err = 0, api.ErrForm
		}
	}()
	r := &reader{rest: s}
	read(r)
	r.end()
	return r.moment()
}

// reader takes a date and its zone from the front of a text.
type reader struct {
	rest  string
	date  api.Civil
	ahead int // seconds of the zone ahead of Greenwich
}

// moment asks for the date ahead of the zone: a date that isn't right has no moment, even if the zone would lead back into range.
func (r *reader) moment() (int, error) {
	t, err := Moment(r.date)
	if err != nil {
		return 0, err
	}
	t -= r.ahead
	if !inRange(t) {
		return 0, api.ErrRange
	}
	return t, nil
}

func (r *reader) day() {
	r.date.Day = r.digit()
	if r.atDigit() {
		r.date.Day = r.date.Day*10 + r.digit()
	}
}

func (r *reader) dayInTwoPlaces() {
	switch {
	case r.at(' '):
		r.mark(' ')
		r.date.Day = r.digit()
	case r.at('0'):
		refuse()
	default:
		r.date.Day = r.digits(2)
	}
}

func (r *reader) month() {
	r.date.Month = r.name(monthNames) + 1
}

func (r *reader) year() {
	r.date.Year = r.digits(4)
}

func (r *reader) hourAndMinute() {
	r.date.Hour = r.digits(2)
	r.mark(':')
	r.date.Minute = r.digits(2)
}

func (r *reader) second() {
	r.mark(':')
	r.date.Second = r.digits(2)
}

func (r *reader) zone() {
	east := r.at('+')
	if !east && !r.at('-') {
		refuse()
	}
	r.skip(1)
	hours := r.digits(2)
	minutes := r.digits(2)
	if hours > 23 || minutes > 59 {
		refuse()
	}
	r.ahead = hours*hourSeconds + minutes*minuteSeconds
	if !east {
		r.ahead = -r.ahead
	}
}

// dayOfWeek drops the name: it needn't be the date's own.
func (r *reader) dayOfWeek() {
	r.name(dayNames)
	r.skipBlanks()
	r.mark(',')
	r.skipBlanks()
}

func (r *reader) name(names string) int {
	for place := range len(names) / nameLength {
		if strings.HasPrefix(r.rest, nameAt(names, place)) {
			r.skip(nameLength)
			return place
		}
	}
	refuse()
	return 0
}

func (r *reader) digits(places int) int {
	n := 0
	for range places {
		n = n*10 + r.digit()
	}
	return n
}

func (r *reader) digit() int {
	if !r.atDigit() {
		refuse()
	}
	d := int(r.rest[0] - '0')
	r.skip(1)
	return d
}

func (r *reader) mark(b byte) {
	if !r.at(b) {
		refuse()
	}
	r.skip(1)
}

func (r *reader) blanks() {
	if !r.atBlank() {
		refuse()
	}
	r.skipBlanks()
}

func (r *reader) skipBlanks() {
	for r.atBlank() {
		r.skip(1)
	}
}

func (r *reader) skip(n int) {
	r.rest = r.rest[n:]
}

func (r *reader) end() {
	if r.rest != "" {
		refuse()
	}
}

func (r *reader) at(b byte) bool {
	return r.rest != "" && r.rest[0] == b
}

func (r *reader) atDigit() bool {
	return r.rest != "" && '0' <= r.rest[0] && r.rest[0] <= '9'
}

func (r *reader) atBlank() bool {
	return r.at(' ') || r.at('\t')
}

// refuse ends the reading of a text that isn't in form.
func refuse() {
	panic(api.ErrForm)
}
