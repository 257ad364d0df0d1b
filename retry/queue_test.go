package retry_test

import (
	"math"
	"math/rand"
	"reflect"
	"slices"
	"strings"
	"testing"

	"postbag/api"
	"postbag/retry"
)

// queueOf is a state whose items have these numbers, and are due then.
func queueOf(idsAndDues ...int) api.State {
	var s api.State
	for pair := range slices.Chunk(idsAndDues, 2) {
		s.Queue = append(s.Queue, api.Item{Id: pair[0], For: []int{0}, Due: pair[1], Body: "x"})
	}
	return s
}

// P18.1
func TestDue(t *testing.T) {
	for _, k := range []struct {
		queue api.State
		now   int
		want  []int
	}{
		{api.State{}, 0, nil},
		{queueOf(1, 0), 0, []int{1}},
		{queueOf(1, 0), 1, []int{1}},
		{queueOf(1, 1), 0, nil},
		{queueOf(1, 60), 59, nil},
		{queueOf(1, 60), 60, []int{1}},
		{queueOf(1, 60), 61, []int{1}},
		{queueOf(2, 90, 5, 30, 9, 60), 29, nil},
		{queueOf(2, 90, 5, 30, 9, 60), 30, []int{5}},
		{queueOf(2, 90, 5, 30, 9, 60), 60, []int{5, 9}},
		{queueOf(2, 90, 5, 30, 9, 60), 89, []int{5, 9}},
		{queueOf(2, 90, 5, 30, 9, 60), 90, []int{2, 5, 9}},
		{queueOf(2, 90, 5, 30, 9, 60), -1, nil},
		{queueOf(1, api.MaxTime, 2, 0), api.MaxTime - 1, []int{2}},
		{queueOf(1, api.MaxTime, 2, 0), api.MaxTime, []int{1, 2}},
		{queueOf(1, 0), math.MinInt, nil},
		{queueOf(1, 0), math.MaxInt, []int{1}},
		// states that aren't in form
		{queueOf(9, 0, 1, 0, 9, 0, -3, 0), 0, []int{9, 1, 9, -3}},
		{queueOf(1, -5, 2, math.MinInt, 3, math.MaxInt), -5, []int{1, 2}},
		{queueOf(1, math.MaxInt, 2, math.MinInt), math.MinInt, []int{2}},
		{queueOf(1, math.MaxInt), math.MaxInt, []int{1}},
	} {
		if got := retry.Due(k.queue, k.now); !slices.Equal(got, k.want) {
			t.Errorf("Due(%v, %d) answers %v, not %v", k.queue.Queue, k.now, got, k.want)
		}
	}
}

// P18.1: only an item's Due matters, whatever else it and the state hold.
func TestDueAsksDueAlone(t *testing.T) {
	s := api.State{
		Boxes: []api.Box{{User: 0, Name: "INBOX", Valid: 1, Next: 1}},
		Queue: []api.Item{
			{Id: 1, From: "a@b", For: []int{0}, Born: 900, Tries: 0, Due: 100, Body: "x"},
			{Id: 2, For: nil, Born: 0, Tries: api.MaxTries, Due: 100},
			{Id: 3, From: "a@b", For: []int{0, 1}, Born: 0, Tries: 4, Due: 101, Body: "y"},
		},
		NextValid: 2,
		NextItem:  4,
	}
	if got := retry.Due(s, 100); !slices.Equal(got, []int{1, 2}) {
		t.Errorf("Due answers %v", got)
	}
}

// P18.1: made queues; the state stays as it was, and what is answered is new.
func TestDueByChance(t *testing.T) {
	dice := rand.New(rand.NewSource(181))
	for range 20000 {
		var pairs []int
		for id := 1; len(pairs) < 2*dice.Intn(api.MaxQueue+1); id += 1 + dice.Intn(3) {
			pairs = append(pairs, id, dice.Intn(12))
		}
		s, same := queueOf(pairs...), queueOf(pairs...)
		now := dice.Intn(14) - 1
		got, want := retry.Due(s, now), modelDue(s, now)
		if !slices.Equal(got, want) {
			t.Fatalf("Due(%v, %d) answers %v, not %v", s.Queue, now, got, want)
		}
		for i := range got {
			got[i] = -1
		}
		if !reflect.DeepEqual(s, same) || !slices.Equal(retry.Due(s, now), want) {
			t.Fatalf("Due(%v, %d) changed the state, or keeps what it answered", s.Queue, now)
		}
	}
}

func accountsOf(names ...string) []api.Account {
	var all []api.Account
	for _, name := range names {
		all = append(all, api.Account{Name: name, Password: "pw"})
	}
	return all
}

// P18.1
func TestHome(t *testing.T) {
	three := accountsOf("ann", "bob", "Eve")
	for _, k := range []struct {
		path     api.Path
		domain   string
		accounts []api.Account
		want     int
	}{
		{api.Path{Local: "ann", Domain: "host"}, "host", three, 0},
		{api.Path{Local: "bob", Domain: "host"}, "host", three, 1},
		{api.Path{Local: "Eve", Domain: "host"}, "host", three, 2},
		{api.Path{Local: "ann", Domain: "HOST"}, "host", three, 0},
		{api.Path{Local: "bob", Domain: "host"}, "Host", three, 1},
		{api.Path{Local: "Eve", Domain: "hOst"}, "HoST", three, 2},
		{api.Path{Local: "ANN", Domain: "host"}, "host", three, -1},
		{api.Path{Local: "Ann", Domain: "host"}, "host", three, -1},
		{api.Path{Local: "eve", Domain: "host"}, "host", three, -1},
		{api.Path{Local: "dan", Domain: "host"}, "host", three, -1},
		{api.Path{Local: "an", Domain: "host"}, "host", three, -1},
		{api.Path{Local: "anna", Domain: "host"}, "host", three, -1},
		{api.Path{Local: "pw", Domain: "host"}, "host", three, -1},
		{api.Path{Local: "ann", Domain: "hosts"}, "host", three, -1},
		{api.Path{Local: "ann", Domain: "hos"}, "host", three, -1},
		{api.Path{Local: "ann", Domain: "a.host"}, "host", three, -1},
		{api.Path{Local: "ann", Domain: "host.a"}, "host", three, -1},
		{api.Path{Local: "ann"}, "host", three, -1},
		{api.Path{Domain: "host"}, "host", three, -1},
		{api.Path{}, "host", three, -1},
		{api.Path{Local: "ann", Domain: "host"}, "", three, -1},
		{api.Path{Local: "ann", Domain: "host"}, "host", nil, -1},
		{api.Path{Local: "ann", Domain: "host"}, "host", []api.Account{}, -1},
		{api.Path{Local: "ann", Domain: "host"}, "host", accountsOf("bob", "ann", "ann"), 1},
		// what isn't in form is held likewise
		{api.Path{}, "", accountsOf("ann", ""), 1},
		{api.Path{}, "", three, -1},
		{api.Path{Local: "é", Domain: "É"}, "É", accountsOf("é"), 0},
		{api.Path{Local: "é", Domain: "É"}, "é", accountsOf("é"), -1},
		{api.Path{Local: "a", Domain: "\u212a"}, "k", accountsOf("a"), -1},
		{api.Path{Local: "a", Domain: "["}, "{", accountsOf("a"), -1},
		{api.Path{Local: "\xff", Domain: "\xff"}, "\xff", accountsOf("\xfe", "\xff"), 1},
		{api.Path{Local: "\xff", Domain: "\xff"}, "\xfe", accountsOf("\xfe", "\xff"), -1},
	} {
		if got := retry.Home(k.path, k.domain, k.accounts); got != k.want {
			t.Errorf("Home(%q, %q, %q) answers %d, not %d", k.path, k.domain, k.accounts, got, k.want)
		}
	}
}

// P18.1: which bytes are the same in names and domains.
func TestHomeOfEveryTwoBytes(t *testing.T) {
	for a := range 256 {
		for b := range 256 {
			one, other := string([]byte{'x', byte(a)}), string([]byte{'x', byte(b)})
			for _, k := range []struct {
				path   api.Path
				domain string
			}{
				{api.Path{Local: one, Domain: "h"}, "h"},
				{api.Path{Local: other, Domain: one}, other},
			} {
				all := accountsOf(other)
				if got, want := retry.Home(k.path, k.domain, all), modelHome(k.path, k.domain, all); got != want {
					t.Fatalf("Home(%q, %q, %q) answers %d, not %d", k.path, k.domain, all, got, want)
				}
			}
		}
	}
}

// P18.1: made names; the accounts stay as they were.
func TestHomeByChance(t *testing.T) {
	dice := rand.New(rand.NewSource(182))
	for range 100000 {
		p := api.Path{Local: anyText(dice, "aAb", 2), Domain: anyText(dice, "hH.", 2)}
		domain := anyText(dice, "hH.", 2)
		all := accountsOf(strings.Split(anyText(dice, "aAb,,", 12), ",")...)
		before := slices.Clone(all)
		if got, want := retry.Home(p, domain, all), modelHome(p, domain, all); got != want {
			t.Fatalf("Home(%q, %q, %q) answers %d, not %d", p, domain, all, got, want)
		}
		if !slices.Equal(all, before) {
			t.Fatalf("Home changed its accounts %q to %q", before, all)
		}
	}
}
