package dates

import (
	"strconv"

	"postbag/api"
)

// The names stand in rows, so that writing and reading go by the same ones.
const (
	dayNames   = "SunMonTueWedThuFriSat"
	monthNames = "JanFebMarAprMayJunJulAugSepOctNovDec"
	nameLength = 3

	greenwich = "+0000"
)

// Mail is a moment as a date field has it.
func Mail(t int) (string, error) {
	return written(t, func(c api.Civil) string {
		return dayName(c) + ", " + twoPlaces(c.Day, "0") + " " + monthName(c) + " " + yearText(c) + " " + clock(c) + " " + greenwich
	})
}

// Box is a moment as a separator line has it.
func Box(t int) (string, error) {
	return written(t, func(c api.Civil) string {
		return dayName(c) + " " + monthName(c) + " " + twoPlaces(c.Day, " ") + " " + clock(c) + " " + yearText(c)
	})
}

// Internal is a moment as IMAP has it.
func Internal(t int) (string, error) {
	return written(t, func(c api.Civil) string {
		return twoPlaces(c.Day, " ") + "-" + monthName(c) + "-" + yearText(c) + " " + clock(c) + " " + greenwich
	})
}

// Day is a moment's day as IMAP has it.
func Day(t int) (string, error) {
	return written(t, func(c api.Civil) string {
		return strconv.Itoa(c.Day) + "-" + monthName(c) + "-" + yearText(c)
	})
}

func written(t int, write func(c api.Civil) string) (string, error) {
	c, err := Civil(t)
	if err != nil {
		return "", err
	}
	return write(c), nil
}

func clock(c api.Civil) string {
	return twoPlaces(c.Hour, "0") + ":" + twoPlaces(c.Minute, "0") + ":" + twoPlaces(c.Second, "0")
}

func yearText(c api.Civil) string {
	return strconv.Itoa(c.Year)
}

func dayName(c api.Civil) string {
	return nameAt(dayNames, c.Week)
}

func monthName(c api.Civil) string {
	return nameAt(monthNames, c.Month-1)
}

func nameAt(names string, place int) string {
	return names[place*nameLength : (place+1)*nameLength]
}

func twoPlaces(n int, ahead string) string {
	if n < 10 {
		return ahead + strconv.Itoa(n)
	}
	return strconv.Itoa(n)
}
