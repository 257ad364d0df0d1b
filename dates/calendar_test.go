package dates_test

import (
	"math"
	"testing"
	"time"

	"postbag/api"
	"postbag/dates"
)

// wrongMoments are numbers just outside the range, far outside it, and at the ends of what an int holds.
var wrongMoments = []int{-1, -2, -86400, math.MinInt32, math.MinInt, api.MaxTime + 1, api.MaxTime + 86400, math.MaxInt - 1, math.MaxInt}

// eachMoment tells look of some moments of every day there is, the first and the last one among them.
func eachMoment(look func(t int)) {
	for day := 0; day <= api.MaxTime/86400; day++ {
		first := day * 86400
		for _, second := range []int{0, 1, 59, 60, 3599, 3600, 43199, 43200, 86399, day % 86400, day * 7919 % 86400} {
			look(first + second)
		}
	}
}

func clockOf(t int) time.Time {
	return time.Unix(int64(t), 0).UTC()
}

func dateOf(t time.Time) api.Civil {
	return api.Civil{Year: t.Year(), Month: int(t.Month()), Day: t.Day(), Hour: t.Hour(), Minute: t.Minute(), Second: t.Second(), Week: int(t.Weekday())}
}

// P1.1
func TestCivil(t *testing.T) {
	for _, k := range []struct {
		moment int
		date   api.Civil
	}{
		{0, api.Civil{Year: 1970, Month: 1, Day: 1, Week: 4}},
		{86399, api.Civil{Year: 1970, Month: 1, Day: 1, Hour: 23, Minute: 59, Second: 59, Week: 4}},
		{86400, api.Civil{Year: 1970, Month: 1, Day: 2, Week: 5}},
		{68169599, api.Civil{Year: 1972, Month: 2, Day: 28, Hour: 23, Minute: 59, Second: 59, Week: 1}},
		{68169600, api.Civil{Year: 1972, Month: 2, Day: 29, Week: 2}},
		{951782400, api.Civil{Year: 2000, Month: 2, Day: 29, Week: 2}},
		{951868800, api.Civil{Year: 2000, Month: 3, Day: 1, Week: 3}},
		{api.MaxTime, api.Civil{Year: 2099, Month: 12, Day: 31, Hour: 23, Minute: 59, Second: 59, Week: 4}},
	} {
		if c, err := dates.Civil(k.moment); err != nil || c != k.date {
			t.Errorf("Civil(%d) answers %v, %v, not %v", k.moment, c, err, k.date)
		}
	}
	for _, n := range wrongMoments {
		if c, err := dates.Civil(n); err != api.ErrRange || c != (api.Civil{}) {
			t.Errorf("Civil(%d) answers %v, %v", n, c, err)
		}
	}
}

// P1.1, P1.2
func TestCivilAndMomentOfEveryDay(t *testing.T) {
	eachMoment(func(n int) {
		want := dateOf(clockOf(n))
		c, err := dates.Civil(n)
		if err != nil || c != want {
			t.Fatalf("Civil(%d) answers %v, %v, not %v", n, c, err, want)
		}
		if back, err := dates.Moment(c); err != nil || back != n {
			t.Fatalf("Moment(%v) answers %d, %v, not %d", c, back, err, n)
		}
	})
}

// P1.1
func TestMomentTakesAnyWeek(t *testing.T) {
	for _, week := range []int{math.MinInt, -1, 0, 3, 6, 7, math.MaxInt} {
		c := api.Civil{Year: 1970, Month: 1, Day: 1, Second: 1, Week: week}
		if n, err := dates.Moment(c); err != nil || n != 1 {
			t.Errorf("Moment(%v) answers %d, %v", c, n, err)
		}
	}
}

// P1.1
func TestMomentAtTheEndsOfMonths(t *testing.T) {
	for year := 1970; year <= 2099; year++ {
		for month := 1; month <= 12; month++ {
			last := time.Date(year, time.Month(month)+1, 0, 23, 59, 59, 0, time.UTC)
			c := dateOf(last)
			if n, err := dates.Moment(c); err != nil || n != int(last.Unix()) {
				t.Errorf("Moment(%v) answers %d, %v", c, n, err)
			}
			c.Day++
			if n, err := dates.Moment(c); err != api.ErrRange || n != 0 {
				t.Errorf("Moment(%v) answers %d, %v", c, n, err)
			}
		}
	}
}

// P1.1
func TestMomentOfWrongDates(t *testing.T) {
	good := api.Civil{Year: 2000, Month: 6, Day: 15, Hour: 12, Minute: 30, Second: 30, Week: 4}
	for name, k := range map[string]struct {
		set   func(c *api.Civil, n int)
		wrong []int
	}{
		"year":   {func(c *api.Civil, n int) { c.Year = n }, []int{-2000, 0, 70, 1969, 2100, 20000}},
		"month":  {func(c *api.Civil, n int) { c.Month = n }, []int{-1, 0, 13, 100}},
		"day":    {func(c *api.Civil, n int) { c.Day = n }, []int{-1, 0, 31, 32, 100}},
		"hour":   {func(c *api.Civil, n int) { c.Hour = n }, []int{-1, 24, 25, 100}},
		"minute": {func(c *api.Civil, n int) { c.Minute = n }, []int{-1, 60, 61, 100}},
		"second": {func(c *api.Civil, n int) { c.Second = n }, []int{-1, 60, 61, 100}},
	} {
		for _, n := range append(k.wrong, math.MinInt, math.MaxInt) {
			c := good
			k.set(&c, n)
			if m, err := dates.Moment(c); err != api.ErrRange || m != 0 {
				t.Errorf("with the %s %d Moment answers %d, %v", name, n, m, err)
			}
		}
	}
	if n, err := dates.Moment(api.Civil{}); err != api.ErrRange || n != 0 {
		t.Errorf("Moment of the zero date answers %d, %v", n, err)
	}
}

// P1.1
func TestLeap(t *testing.T) {
	for year, want := range map[int]bool{
		1970: false, 1972: true, 2000: true, 2024: true, 2025: false, 2026: false, 2096: true, 2099: false, 2100: false,
		1600: true, 1700: false, 1800: false, 1900: false, 400: true, 100: false, 4: true, 1: false, 0: true,
		-1: false, -4: true, -100: false, -399: false, -400: true, -404: true,
		math.MaxInt: false, math.MaxInt - 3: true, math.MinInt: true, math.MinInt + 1: false,
	} {
		if got := dates.Leap(year); got != want {
			t.Errorf("Leap(%d) answers %v", year, got)
		}
	}
	for year := -2000; year <= 4000; year++ {
		want := time.Date(year, 12, 31, 0, 0, 0, 0, time.UTC).YearDay() == 366
		if got := dates.Leap(year); got != want {
			t.Errorf("Leap(%d) answers %v", year, got)
		}
	}
}

// P1.1
func TestDays(t *testing.T) {
	for year := -2000; year <= 4000; year++ {
		for month := 1; month <= 12; month++ {
			want := time.Date(year, time.Month(month)+1, 0, 0, 0, 0, 0, time.UTC).Day()
			if got := dates.Days(year, month); got != want {
				t.Errorf("Days(%d, %d) answers %d", year, month, got)
			}
		}
	}
	for _, year := range []int{math.MinInt, -1, 0, 1970, 2000, math.MaxInt} {
		for _, month := range []int{math.MinInt, -2, -1, 0, 13, 14, 100, math.MaxInt} {
			if got := dates.Days(year, month); got != 0 {
				t.Errorf("Days(%d, %d) answers %d", year, month, got)
			}
		}
	}
	if dates.Days(math.MinInt, 2) != 29 || dates.Days(math.MaxInt, 2) != 28 || dates.Days(math.MaxInt, 12) != 31 {
		t.Error("Days is wrong of years at the ends of an int")
	}
}
