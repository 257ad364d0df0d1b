// Package dates is layer 1: moments as numbers, as a calendar has them, and as text.
package dates

import "postbag/api"

const (
	firstYear = 1970
	lastYear  = 2099
	firstWeek = 4 // moment 0 is on a Thursday

	minuteSeconds = 60
	hourSeconds   = 60 * minuteSeconds
	daySeconds    = 24 * hourSeconds
)

// Civil is a moment's date.
func Civil(t int) (api.Civil, error) {
	if !inRange(t) {
		return api.Civil{}, api.ErrRange
	}
	c := dateOf(t / daySeconds)
	rest := t % daySeconds
	c.Hour = rest / hourSeconds
	c.Minute = rest % hourSeconds / minuteSeconds
	c.Second = rest % minuteSeconds
	return c, nil
}

// Moment is a date's moment.
func Moment(c api.Civil) (int, error) {
	if !right(c) {
		return 0, api.ErrRange
	}
	return daysBefore(c)*daySeconds + c.Hour*hourSeconds + c.Minute*minuteSeconds + c.Second, nil
}

// Leap tells whether a year has 366 days.
func Leap(year int) bool {
	return year%4 == 0 && year%100 != 0 || year%400 == 0
}

// Days is how many days a month has, 0 if there is no such month.
func Days(year, month int) int {
	switch month {
	case 1, 3, 5, 7, 8, 10, 12:
		return 31
	case 4, 6, 9, 11:
		return 30
	case 2:
		if Leap(year) {
			return 29
		}
		return 28
	}
	return 0
}

func inRange(t int) bool {
	return between(t, 0, api.MaxTime)
}

func between(n, least, most int) bool {
	return least <= n && n <= most
}

func right(c api.Civil) bool {
	return between(c.Year, firstYear, lastYear) &&
		between(c.Month, 1, 12) &&
		between(c.Day, 1, Days(c.Year, c.Month)) &&
		between(c.Hour, 0, 23) &&
		between(c.Minute, 0, 59) &&
		between(c.Second, 0, 59)
}

// dateOf is the date of the day that has so many days ahead of it, from moment 0 on.
func dateOf(days int) api.Civil {
	c := api.Civil{Year: firstYear, Month: 1, Week: (firstWeek + days) % 7}
	for days >= yearDays(c.Year) {
		days -= yearDays(c.Year)
		c.Year++
	}
	for days >= Days(c.Year, c.Month) {
		days -= Days(c.Year, c.Month)
		c.Month++
	}
	c.Day = days + 1
	return c
}

// daysBefore is how many days there are from moment 0 on ahead of a right date's.
func daysBefore(c api.Civil) int {
	days := c.Day - 1
	for year := firstYear; year < c.Year; year++ {
		days += yearDays(year)
	}
	for month := 1; month < c.Month; month++ {
		days += Days(c.Year, month)
	}
	return days
}

func yearDays(year int) int {
	if Leap(year) {
		return 366
	}
	return 365
}
