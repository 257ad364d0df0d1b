package retry_test

import (
	"math"
	"testing"

	"postbag/api"
	"postbag/retry"
)

func nextOf(tries, now int) next {
	due, expired, err := retry.Next(tries, now)
	return next{due, expired, err}
}

// P18.1: the chapter's examples.
func TestExamples(t *testing.T) {
	if got := nextOf(0, 1000); got != (next{due: 1060}) {
		t.Errorf("Next(0, 1000) answers %v", got)
	}
	if got := nextOf(4, 1000); got != (next{expired: true}) {
		t.Errorf("Next(4, 1000) answers %v", got)
	}
	if got := retry.Most(0); got != 9360 {
		t.Errorf("Most(0) answers %d", got)
	}
}

// P18.1: each wait, the end of time, what is out of range.
func TestNext(t *testing.T) {
	outOfRange := next{err: api.ErrRange}
	for _, k := range []struct {
		tries, now int
		want       next
	}{
		{0, 0, next{due: 60}},
		{1, 0, next{due: 300}},
		{2, 0, next{due: 1800}},
		{3, 0, next{due: 7200}},
		{4, 0, next{expired: true}},
		{1, 1000, next{due: 1300}},
		{2, 1000, next{due: 2800}},
		{3, 1000, next{due: 8200}},
		{0, api.MaxTime - 61, next{due: api.MaxTime - 1}},
		{0, api.MaxTime - 60, next{due: api.MaxTime}},
		{0, api.MaxTime - 59, next{due: api.MaxTime}},
		{0, api.MaxTime, next{due: api.MaxTime}},
		{1, api.MaxTime - 301, next{due: api.MaxTime - 1}},
		{1, api.MaxTime - 299, next{due: api.MaxTime}},
		{2, api.MaxTime - 1801, next{due: api.MaxTime - 1}},
		{2, api.MaxTime - 1799, next{due: api.MaxTime}},
		{3, api.MaxTime - 7201, next{due: api.MaxTime - 1}},
		{3, api.MaxTime - 7199, next{due: api.MaxTime}},
		{3, api.MaxTime, next{due: api.MaxTime}},
		{4, api.MaxTime, next{expired: true}},
		{-1, 0, outOfRange},
		{5, 0, outOfRange},
		{6, 0, outOfRange},
		{api.MaxTries, api.MaxTime, outOfRange},
		{0, -1, outOfRange},
		{4, -1, outOfRange},
		{0, api.MaxTime + 1, outOfRange},
		{4, api.MaxTime + 1, outOfRange},
		{-1, -1, outOfRange},
		{math.MinInt, 0, outOfRange},
		{math.MaxInt, 0, outOfRange},
		{0, math.MinInt, outOfRange},
		{0, math.MaxInt, outOfRange},
		{math.MaxInt, math.MaxInt, outOfRange},
	} {
		if got := nextOf(k.tries, k.now); got != k.want {
			t.Errorf("Next(%d, %d) answers %v, not %v", k.tries, k.now, got, k.want)
		}
	}
}

// P18.1: every second near both ends of time, and some between.
func TestNextAndMostOfManyMoments(t *testing.T) {
	check := func(now int) {
		for tries := -2; tries <= api.MaxTries+1; tries++ {
			if got, want := nextOf(tries, now), modelNext(tries, now); got != want {
				t.Fatalf("Next(%d, %d) answers %v, not %v", tries, now, got, want)
			}
		}
		if got, want := retry.Most(now), modelMost(now); got != want {
			t.Fatalf("Most(%d) answers %d, not %d", now, got, want)
		}
	}
	for i := -10000; i <= 10000; i++ {
		check(i)
		check(api.MaxTime + i)
	}
	for now := 0; now <= api.MaxTime; now += 86399 {
		check(now)
	}
}

// P18.1
func TestMost(t *testing.T) {
	for _, k := range []struct{ now, want int }{
		{1, 9360},
		{1000, 9360},
		{api.MaxTime - 9361, 9360},
		{api.MaxTime - 9360, 9360},
		{api.MaxTime - 9359, 9359},
		{api.MaxTime - 7200, 7200},
		{api.MaxTime - 100, 100},
		{api.MaxTime - 60, 60},
		{api.MaxTime - 1, 1},
		{api.MaxTime, 0},
		{api.MaxTime + 1, 0},
		{-1, 0},
		{-9360, 0},
		{math.MinInt, 0},
		{math.MaxInt, 0},
	} {
		if got := retry.Most(k.now); got != k.want {
			t.Errorf("Most(%d) answers %d, not %d", k.now, got, k.want)
		}
	}
}

// P18.2: an item that fails each time it is due, till it has expired.
func TestTriesInAll(t *testing.T) {
	for _, first := range []int{0, 1, 1000, 951782400, api.MaxTime - 9361, api.MaxTime - 9360, api.MaxTime - 9000, api.MaxTime - 2000, api.MaxTime - 61, api.MaxTime - 1, api.MaxTime} {
		tries, now := 0, first
		for expired := false; !expired; tries++ {
			due, over, err := retry.Next(tries, now)
			if err != nil {
				t.Fatalf("first at %d: Next(%d, %d) answers %v", first, tries, now, err)
			}
			if expired = over; !expired {
				now = due
			}
		}
		if tries != api.MaxTries {
			t.Errorf("first at %d: tried %d times", first, tries)
		}
		if now-first != retry.Most(first) {
			t.Errorf("first at %d: waited %d seconds, Most says %d", first, now-first, retry.Most(first))
		}
	}
}
