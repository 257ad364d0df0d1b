package seqs_test

import (
	"errors"
	"math"
	"regexp"
	"slices"
	"strconv"
	"strings"
	"testing"

	"postbag/api"
	"postbag/seqs"
)

const most = api.MaxUid

// Numbers at and beside all limits that the chapter and the kind of number have.
var edges = []int{math.MinInt, math.MinInt + 1, -most, -2, -1, 0, 1, 2, 3, 4, 5, 9, most - 1, most, most + 1, math.MaxInt - 1, math.MaxInt}

// The chapter's words on texts, said a second way.
var (
	numberForm = regexp.MustCompile(`\A[1-9][0-9]*\z`)
	setForm    = regexp.MustCompile(`\A([1-9][0-9]*|\*)(:([1-9][0-9]*|\*))?(,([1-9][0-9]*|\*)(:([1-9][0-9]*|\*))?)*\z`)
)

// modelNumber adds the digits up, and looks at the greatest number as text.
func modelNumber(s string) (int, bool) {
	if !numberForm.MatchString(s) || len(s) > 10 || len(s) == 10 && s > "2147483648" {
		return 0, false
	}
	n := 0
	for _, c := range []byte(s) {
		n = 10*n + int(c-'0')
	}
	return n, true
}

func modelSet(s string) ([]api.Range, bool) {
	if !setForm.MatchString(s) || strings.Count(s, ",") > 49 {
		return nil, false
	}
	var set []api.Range
	for _, item := range strings.Split(s, ",") {
		var ends []int
		for _, text := range strings.Split(item, ":") {
			n, is := modelNumber(text)
			if !is && text != "*" {
				return nil, false
			}
			ends = append(ends, n)
		}
		set = append(set, api.Range{From: ends[0], To: ends[len(ends)-1]})
	}
	return set, true
}

func modelHas(set []api.Range, n, max int) bool {
	for _, r := range set {
		if r.From == 0 && max > 0 {
			r.From = max
		}
		if r.To == 0 && max > 0 {
			r.To = max
		}
		if n >= 1 && (r.From <= n && n <= r.To || r.To <= n && n <= r.From) {
			return true
		}
	}
	return false
}

func modelOf(set []api.Range, numbers []int) []int {
	var had []int
	for _, n := range numbers {
		if modelHas(set, n, numbers[len(numbers)-1]) {
			had = append(had, n)
		}
	}
	return had
}

func checkSet(t *testing.T, s string) {
	t.Helper()
	want, is := modelSet(s)
	got, err := seqs.Set(s)
	if is && (err != nil || !slices.Equal(got, want)) {
		t.Fatalf("Set(%.200q) answers %v, %v, and not %v", s, got, err, want)
	}
	if !is && (!errors.Is(err, api.ErrForm) || len(got) != 0) {
		t.Fatalf("Set(%.200q) answers %v, %v, and not ErrForm", s, got, err)
	}
}

func checkNumber(t *testing.T, s string) {
	t.Helper()
	want, is := modelNumber(s)
	got, err := seqs.Number(s)
	if is && (err != nil || got != want) {
		t.Fatalf("Number(%.200q) answers %d, %v, and not %d", s, got, err, want)
	}
	if !is && (!errors.Is(err, api.ErrForm) || got != 0) {
		t.Fatalf("Number(%.200q) answers %d, %v, and not ErrForm", s, got, err)
	}
}

func checkHas(t *testing.T, set []api.Range, n, max int) {
	t.Helper()
	if want := modelHas(set, n, max); seqs.Has(set, n, max) != want {
		t.Fatalf("Has(%v, %d, %d) answers %v", set, n, max, !want)
	}
}

func checkOf(t *testing.T, set []api.Range, numbers []int) {
	t.Helper()
	if got, want := seqs.Of(set, numbers), modelOf(set, numbers); !slices.Equal(got, want) {
		t.Fatalf("Of(%v, %v) answers %v, and not %v", set, numbers, got, want)
	}
}

func checkRound(t *testing.T, set []api.Range) {
	t.Helper()
	s, err := seqs.Text(set)
	if err != nil {
		t.Fatalf("Text(%v) answers %v", set, err)
	}
	if again, err := seqs.Set(s); err != nil || !slices.Equal(again, set) {
		t.Fatalf("Set(%q) answers %v, %v, and not %v", s, again, err, set)
	}
}

// rows calls f with all rows of pieces, of up to some of them.
func rows(pieces []string, most int, f func(string)) {
	var grow func(text string, left int)
	grow = func(text string, left int) {
		f(text)
		if left == 0 {
			return
		}
		for _, piece := range pieces {
			grow(text+piece, left-1)
		}
	}
	grow("", most)
}

type dice uint64

func (d *dice) below(n int) int {
	*d = *d*6364136223846793005 + 1442695040888963407
	return int(*d>>33) % n
}

func (d *dice) row(pieces []string, most int) string {
	var b strings.Builder
	for range d.below(most + 1) {
		b.WriteString(pieces[d.below(len(pieces))])
	}
	return b.String()
}

func (d *dice) ranges(least, most int, ends []int) []api.Range {
	var set []api.Range
	for range least + d.below(most-least+1) {
		set = append(set, api.Range{From: ends[d.below(len(ends))], To: ends[d.below(len(ends))]})
	}
	return set
}

// P14.1: numbers, and what isn't one.
func TestNumber(t *testing.T) {
	for s, want := range map[string]int{"1": 1, "9": 9, "10": 10, "2147483647": most - 1, "2147483648": most, "1000000000": 1000000000, "999999999": 999999999} {
		if got, err := seqs.Number(s); err != nil || got != want {
			t.Errorf("Number(%q) answers %d, %v", s, got, err)
		}
	}
	for _, s := range []string{
		"", "0", "00", "01", "010", "-0", "-1", "+1", "+", "-", " 1", "1 ", "1\n", "1\x00", "1_0", "1,0", "1.0", "1e3", "0x1", "a", "*", "1*", "1:2", "\xd9\xa1", "１",
		"2147483649", "2147483650", "3000000000", "9999999999", "10000000000", "02147483648", "9223372036854775807", "9223372036854775808", "18446744073709551615", "18446744073709551617", "4294967297", "340282366920938463463374607431768211457",
		strings.Repeat("1", 1<<22), strings.Repeat("0", 1<<22) + "1", "1" + strings.Repeat("0", 1<<22),
	} {
		if got, err := seqs.Number(s); !errors.Is(err, api.ErrForm) || got != 0 {
			t.Errorf("Number(%.100q) answers %d, %v", s, got, err)
		}
	}
}

// P14.1: all short texts, each byte in each place, and all numbers near those where digits change.
func TestNumbers(t *testing.T) {
	rows([]string{"0", "1", "9", "+", "-", "*", " ", "_"}, 5, func(s string) { checkNumber(t, s) })
	for _, s := range []string{"", "1", "12", "2147483648"} {
		forEachByte(s, func(s string) { checkNumber(t, s) })
	}
	for ten := 1; ten <= 1000000000000; ten *= 10 {
		for n := max(ten-300, -300); n < ten+300; n++ {
			checkNumber(t, strconv.Itoa(n))
		}
	}
	for n := most - 300; n < most+300; n++ {
		checkNumber(t, strconv.Itoa(n))
		checkSet(t, strconv.Itoa(n)+":"+strconv.Itoa(most-n+most))
	}
}

// forEachByte calls f with a text with each byte put in at each place, and put in place of each one.
func forEachByte(s string, f func(string)) {
	for at := range len(s) + 1 {
		for c := range 256 {
			f(s[:at] + string([]byte{byte(c)}) + s[at:])
			if at < len(s) {
				f(s[:at] + string([]byte{byte(c)}) + s[at+1:])
			}
		}
	}
}

// P14.1: sets, the chapter's example ahead.
func TestSet(t *testing.T) {
	for s, want := range map[string][]api.Range{
		"2:4,*":                 {{From: 2, To: 4}, {}},
		"1":                     {{From: 1, To: 1}},
		"*":                     {{}},
		"*:*":                   {{}},
		"*:1":                   {{From: 0, To: 1}},
		"1:*":                   {{From: 1, To: 0}},
		"4:2":                   {{From: 4, To: 2}},
		"3:3":                   {{From: 3, To: 3}},
		"1,1":                   {{From: 1, To: 1}, {From: 1, To: 1}},
		"9,3:1,*,2":             {{From: 9, To: 9}, {From: 3, To: 1}, {}, {From: 2, To: 2}},
		"2147483648:2147483648": {{From: most, To: most}},
		"1:2147483648":          {{From: 1, To: most}},
	} {
		if got, err := seqs.Set(s); err != nil || !slices.Equal(got, want) {
			t.Errorf("Set(%q) answers %v, %v", s, got, err)
		}
	}
	for _, s := range []string{
		"", ",", ":", "1,", ",1", "1,,2", "1:", ":1", "1:2:3", "1::2", ":*", "*:", "**", "*1", "1*", "0", "0:1", "1:0", "01", "1:02", "-1", "1:-1", "+1", "1:+2", " 1", "1 ", "1, 2", "1 :2", "1;2", "1-2", "a", "1:a", "$", "1\r\n", "\x00", "\xff", "＊", "٣",
		"2147483649", "1:2147483649", "2147483649:1", "1,2147483649", "18446744073709551617", "1:18446744073709551617",
	} {
		if got, err := seqs.Set(s); !errors.Is(err, api.ErrForm) || len(got) != 0 {
			t.Errorf("Set(%q) answers %v, %v", s, got, err)
		}
	}
}

// P14.1: all short texts, each byte in each place, and many longer texts.
func TestSets(t *testing.T) {
	rows([]string{"0", "1", "2", "*", ":", ",", "-"}, 6, func(s string) { checkSet(t, s) })
	rows([]string{"*", "13", "2147483648", "2147483649", ":", ",", "0", " "}, 5, func(s string) { checkSet(t, s) })
	for _, s := range []string{"", "1", "*", "1:2", "10:*,2147483648", "1,2,3"} {
		forEachByte(s, func(s string) { checkSet(t, s) })
	}
	d, inForm := dice(1), 0
	for range 100000 {
		s := d.row([]string{"1,", "2:3,", "*,", "*:4,", "50:*,", "2147483648,"}, 12) + d.row([]string{"7", "*", ":", "1:2", ",", "0", "x"}, 2)
		if _, is := modelSet(s); is {
			inForm++
		}
		checkSet(t, s)
	}
	if inForm < 10000 {
		t.Errorf("only %d of the texts are sets", inForm)
	}
}

// P14.1: as many items as there may be, one more, and very many.
func TestSetLengths(t *testing.T) {
	for _, item := range []string{"1", "*", "1:2", "*:*", "2147483648:2147483648"} {
		for n := range 120 {
			checkSet(t, strings.Repeat(item+",", n)+item)
			checkSet(t, strings.Repeat(item+",", n))
		}
		if set, err := seqs.Set(strings.Repeat(item+",", 49) + item); err != nil || len(set) != 50 {
			t.Errorf("Set of 50 items %q answers %d, %v", item, len(set), err)
		}
		if set, err := seqs.Set(strings.Repeat(item+",", 50) + item); !errors.Is(err, api.ErrForm) || len(set) != 0 {
			t.Errorf("Set of 51 items %q answers %d, %v", item, len(set), err)
		}
	}
	for _, piece := range []string{"1", "*", ":", ",", "1,", "*:", "0", "1:1,"} {
		if set, err := seqs.Set(strings.Repeat(piece, 1<<22) + "1"); !errors.Is(err, api.ErrForm) || len(set) != 0 {
			t.Errorf("Set of very many %q answers %d, %v", piece, len(set), err)
		}
	}
}

// P14.1: sets' texts, and sets that have none.
func TestText(t *testing.T) {
	for want, set := range map[string][]api.Range{
		"2:4,*":               {{From: 2, To: 4}, {}},
		"1":                   {{From: 1, To: 1}},
		"*":                   {{}},
		"*:1,1:*,2:1":         {{From: 0, To: 1}, {From: 1, To: 0}, {From: 2, To: 1}},
		"5,5,5":               {{From: 5, To: 5}, {From: 5, To: 5}, {From: 5, To: 5}},
		"2147483648":          {{From: most, To: most}},
		"2147483648:*":        {{From: most, To: 0}},
		"1:2147483648,10:100": {{From: 1, To: most}, {From: 10, To: 100}},
	} {
		if got, err := seqs.Text(set); err != nil || got != want {
			t.Errorf("Text(%v) answers %q, %v", set, got, err)
		}
	}
	for _, from := range edges {
		for _, to := range edges {
			set := []api.Range{{From: 1, To: 1}, {From: from, To: to}, {}}
			right := 0 <= from && from <= most && 0 <= to && to <= most
			if s, err := seqs.Text(set); right != (err == nil) || !right && (s != "" || !errors.Is(err, api.ErrForm)) {
				t.Errorf("Text(%v) answers %q, %v", set, s, err)
			}
		}
	}
	for _, n := range []int{0, 51, 52, 100, 1 << 22} {
		if s, err := seqs.Text(make([]api.Range, n)); !errors.Is(err, api.ErrForm) || s != "" {
			t.Errorf("Text of %d ranges answers %q, %v", n, s, err)
		}
	}
	if s, err := seqs.Text(make([]api.Range, 50)); err != nil || s != strings.Repeat("*,", 49)+"*" {
		t.Errorf("Text of 50 ranges answers %q, %v", s, err)
	}
	if s, err := seqs.Text(nil); !errors.Is(err, api.ErrForm) || s != "" {
		t.Errorf("Text of no list answers %q, %v", s, err)
	}
}

// P14.2: Set of Text is the set: all pairs of ends among some, and many sets of up to MaxSet ranges.
func TestSetOfText(t *testing.T) {
	ends := []int{0, 1, 2, 3, 9, 10, 11, 99, 100, 4095, 65536, 999999999, 1000000000, most - 1, most}
	for _, from := range ends {
		for _, to := range ends {
			checkRound(t, []api.Range{{From: from, To: to}})
			checkRound(t, []api.Range{{From: from, To: to}, {From: to, To: from}, {}})
		}
	}
	d := dice(2)
	for range 20000 {
		checkRound(t, d.ranges(1, 50, ends))
		checkRound(t, d.ranges(50, 50, []int{0, 1, 1 + d.below(most), 1 + d.below(most)}))
	}
}

// P14.1: whether a set has a number.
func TestHas(t *testing.T) {
	for _, k := range []struct {
		set    []api.Range
		n, max int
		want   bool
	}{
		{[]api.Range{{From: 2, To: 4}}, 1, 9, false},
		{[]api.Range{{From: 2, To: 4}}, 2, 9, true},
		{[]api.Range{{From: 2, To: 4}}, 3, 9, true},
		{[]api.Range{{From: 2, To: 4}}, 4, 9, true},
		{[]api.Range{{From: 2, To: 4}}, 5, 9, false},
		{[]api.Range{{From: 4, To: 2}}, 3, 9, true},
		{[]api.Range{{From: 4, To: 2}}, 2, 9, true},
		{[]api.Range{{From: 4, To: 2}}, 4, 9, true},
		{[]api.Range{{From: 4, To: 2}}, 5, 9, false},
		{[]api.Range{{From: 2, To: 4}}, 3, 1, true}, // max is there for a 0 alone
		{[]api.Range{{From: 2, To: 4}}, 3, 0, true},
		{[]api.Range{{}}, 9, 9, true},
		{[]api.Range{{}}, 8, 9, false},
		{[]api.Range{{}}, 10, 9, false},
		{[]api.Range{{From: 3, To: 0}}, 3, 9, true},
		{[]api.Range{{From: 3, To: 0}}, 9, 9, true},
		{[]api.Range{{From: 3, To: 0}}, 10, 9, false},
		{[]api.Range{{From: 3, To: 0}}, 2, 9, false},
		{[]api.Range{{From: 12, To: 0}}, 9, 9, true},
		{[]api.Range{{From: 12, To: 0}}, 12, 9, true},
		{[]api.Range{{From: 12, To: 0}}, 8, 9, false},
		{[]api.Range{{From: 0, To: 12}}, 10, 9, true},
		{[]api.Range{{}}, 1, 0, false},
		{[]api.Range{{}}, 1, -1, false},
		{[]api.Range{{From: 3, To: 0}}, 2, 0, true},
		{[]api.Range{{From: 3, To: 0}}, 2, -7, true},
		{[]api.Range{{From: 3, To: 0}}, 4, 0, false},
		{[]api.Range{{}}, 0, 0, false},
		{[]api.Range{{}}, -1, -1, false},
		{[]api.Range{{From: -5, To: 5}}, 0, 9, false},
		{[]api.Range{{From: -5, To: 5}}, -3, 9, false},
		{[]api.Range{{From: -5, To: 5}}, 1, 9, true},
		{nil, 1, 9, false},
		{[]api.Range{{From: 1, To: 1}, {From: 3, To: 3}}, 2, 9, false},
		{[]api.Range{{From: 1, To: 1}, {From: 3, To: 3}}, 3, 9, true},
		{[]api.Range{{From: 1, To: most}}, most, 9, true},
		{[]api.Range{{From: math.MinInt, To: math.MaxInt}}, math.MaxInt, 9, true},
	} {
		if seqs.Has(k.set, k.n, k.max) != k.want {
			t.Errorf("Has(%v, %d, %d) answers %v", k.set, k.n, k.max, !k.want)
		}
	}
}

// P14.1: all ranges of the edges, with all numbers and all greatest ones of these; and sets of several.
func TestHasAll(t *testing.T) {
	for _, from := range edges {
		for _, to := range edges {
			for _, n := range edges {
				for _, max := range edges {
					checkHas(t, []api.Range{{From: from, To: to}}, n, max)
				}
			}
		}
	}
	d := dice(3)
	for range 200000 {
		checkHas(t, d.ranges(0, 4, edges), edges[d.below(len(edges))], edges[d.below(len(edges))])
	}
}

// P14.1: the numbers that a set has.
func TestOf(t *testing.T) {
	for _, k := range []struct {
		set     []api.Range
		numbers []int
		want    []int
	}{
		{[]api.Range{{From: 2, To: 4}, {}}, []int{1, 3, 9}, []int{3, 9}},
		{[]api.Range{{}}, []int{1, 3, 9}, []int{9}},
		{[]api.Range{{From: 4, To: 0}}, []int{1, 3, 9}, []int{9}},
		{[]api.Range{{From: 20, To: 0}}, []int{1, 3, 9}, []int{9}},
		{[]api.Range{{From: 1, To: 0}}, []int{1, 3, 9}, []int{1, 3, 9}},
		{[]api.Range{{From: 9, To: 9}, {From: 1, To: 1}, {From: 9, To: 1}}, []int{1, 3, 9}, []int{1, 3, 9}},
		{[]api.Range{{From: 9, To: 9}, {From: 1, To: 1}}, []int{1, 3, 9}, []int{1, 9}},
		{[]api.Range{{From: 1, To: 10}, {From: 2, To: 3}}, []int{1, 5, 11}, []int{1, 5}},
		{[]api.Range{{From: 4, To: 8}}, []int{1, 3, 9}, nil},
		{[]api.Range{{From: 10, To: 11}}, []int{1, 3, 9}, nil},
		{[]api.Range{{From: 1, To: 0}}, nil, nil},
		{nil, []int{1, 3, 9}, nil},
		{nil, nil, nil},
		{[]api.Range{{From: -5, To: 5}}, []int{-3, 0, 2}, []int{2}},
		{[]api.Range{{}}, []int{-3, -1}, nil},
		{[]api.Range{{}}, []int{-1, 0}, nil},
		{[]api.Range{{From: 1, To: 0}}, []int{most - 1, most}, []int{most - 1, most}},
	} {
		if got := seqs.Of(k.set, k.numbers); !slices.Equal(got, k.want) {
			t.Errorf("Of(%v, %v) answers %v", k.set, k.numbers, got)
		}
	}
}

// P14.1: many sets and lists, rising ones and others.
func TestOfMany(t *testing.T) {
	d := dice(4)
	for range 100000 {
		ends := []int{0, 0, 1, 2, 3, 5, 8, 12, 17, 20, 25, 30}
		checkOf(t, d.ranges(0, 5, ends), d.rising(d.below(8)))
		numbers := d.rising(d.below(5))
		for range d.below(6) {
			numbers = append(numbers, edges[d.below(len(edges))])
		}
		checkOf(t, d.ranges(0, 6, edges), numbers)
		slices.Sort(numbers)
		checkOf(t, d.ranges(0, 50, append(ends, edges...)), numbers)
	}
}

func (d *dice) rising(n int) []int {
	var numbers []int
	last := 0
	for range n {
		last += 1 + d.below(6)
		numbers = append(numbers, last)
	}
	return numbers
}

// P14.1: very many ranges and numbers, which can't be held each against each.
func TestOfGreat(t *testing.T) {
	const n = 1 << 19
	numbers := make([]int, n)
	apart, nested, none := make([]api.Range, n), make([]api.Range, n), make([]api.Range, n)
	for i := range n {
		numbers[i] = 3*i + 3
		apart[n-1-i] = api.Range{From: 6 * i, To: 6*i + 1}
		nested[i] = api.Range{From: 3*n - i, To: i + 4}
		none[i] = api.Range{From: 3*i + 2, To: 3*i + 1}
	}
	apart[n-1] = api.Range{From: 1, To: 2}
	got := seqs.Of(apart, numbers)
	if len(got) != n/2 || slices.ContainsFunc(got, func(k int) bool { return k%6 != 0 }) || !slices.IsSorted(got) {
		t.Errorf("Of many ranges apart answers %d numbers", len(got))
	}
	if got := seqs.Of(nested, numbers); !slices.Equal(got, numbers[1:]) {
		t.Errorf("Of many ranges in one another answers %d numbers", len(got))
	}
	if got := seqs.Of(none, numbers); len(got) != 0 {
		t.Errorf("Of many ranges between the numbers answers %d numbers", len(got))
	}
	if seqs.Has(none, 3, 9) || !seqs.Has(none, 3*n-1, 9) {
		t.Error("Has answers otherwise of many ranges")
	}
}

// P14.1: what is handed in stays as it was, and the answers are others.
func TestNothingShared(t *testing.T) {
	set := []api.Range{{From: 9, To: 5}, {}, {From: 3, To: 1}}
	numbers := []int{1, 3, 4, 6, 9, 12}
	keptSet, keptNumbers := slices.Clone(set), slices.Clone(numbers)
	got := seqs.Of(set, numbers)
	seqs.Has(set, 6, 12)
	seqs.Text(set)
	for i := range got {
		got[i] = -1
	}
	_ = append(seqs.Of(set, numbers[:3]), 77)
	if !slices.Equal(set, keptSet) || !slices.Equal(numbers, keptNumbers) {
		t.Errorf("Of leaves %v, %v", set, numbers)
	}
	first, _ := seqs.Set("1:2,3")
	first[0].From = 7
	if again, _ := seqs.Set("1:2,3"); again[0].From != 1 {
		t.Errorf("Set answers %v then", again)
	}
}
