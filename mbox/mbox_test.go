package mbox_test

import (
	"fmt"
	"math"
	"math/rand"
	"slices"
	"strings"
	"testing"

	"postbag/api"
	"postbag/dates"
	"postbag/lines"
	"postbag/mbox"
	"postbag/quote"
)

const example = "From a@b Thu Jan  1 00:00:00 1970\nx\n"

// P7.1: the chapter's example.
func TestExample(t *testing.T) {
	entry, err := mbox.Entry("a@b", 0, "x")
	if err != nil || entry != example {
		t.Fatalf("Entry answers %q, %v", entry, err)
	}
	spans, err := mbox.Scan(entry)
	if err != nil || !slices.Equal(spans, []api.Span{{Head: 0, Body: 34, End: 36}}) {
		t.Errorf("Scan answers %v, %v", spans, err)
	}
}

// P7.1
func TestEntry(t *testing.T) {
	long := strings.Repeat("s", 200)
	for _, k := range []struct {
		sender  string
		t       int
		message string
		entry   string
	}{
		{"a@b", 951782400, "", "From a@b Tue Feb 29 00:00:00 2000\n\n"},
		{"!", 0, "\n", "From ! Thu Jan  1 00:00:00 1970\n\n\n"},
		{"~", api.MaxTime, "x\r\n", "From ~ Thu Dec 31 23:59:59 2099\nx\r\n\n"},
		{long, 1, "x", "From " + long + " Thu Jan  1 00:00:01 1970\nx\n"},
		{"From", 0, "From a\n>From b\n", "From From Thu Jan  1 00:00:00 1970\n>From a\n>>From b\n\n"},
		{">From", 0, "From", "From >From Thu Jan  1 00:00:00 1970\nFrom\n"},
		{"<a@b>", 0, example, "From <a@b> Thu Jan  1 00:00:00 1970\n>" + example + "\n"},
		{"a", 0, "\x00\xff\r", "From a Thu Jan  1 00:00:00 1970\n\x00\xff\r\n"},
	} {
		if got, err := mbox.Entry(k.sender, k.t, k.message); err != nil || got != k.entry {
			t.Errorf("Entry(%q, %d, %q) answers %q, %v, not %q", k.sender, k.t, k.message, got, err, k.entry)
		}
	}
}

// P7.1: a message may be longer than one that SMTP takes.
func TestEntryOfLongMessage(t *testing.T) {
	message := strings.Repeat("From \n", api.MaxMessage)
	entry, err := mbox.Entry("a", 0, message)
	if err != nil || entry != "From a Thu Jan  1 00:00:00 1970\n"+strings.Repeat(">From \n", api.MaxMessage)+"\n" {
		t.Errorf("Entry of a long message answers %d bytes, %v", len(entry), err)
	}
}

// P7.1: the sender is asked ahead of the moment.
func TestEntryRefuses(t *testing.T) {
	for _, k := range []struct {
		sender string
		t      int
		err    error
	}{
		{"", 0, api.ErrName},
		{"", -1, api.ErrName},
		{strings.Repeat("s", 201), 0, api.ErrName},
		{strings.Repeat("s", 201), api.MaxTime + 1, api.ErrName},
		{strings.Repeat("s", 1<<20), 0, api.ErrName},
		{"a b", 0, api.ErrName},
		{" a", 0, api.ErrName},
		{"a ", 0, api.ErrName},
		{"a\n", 0, api.ErrName},
		{"é@b", 0, api.ErrName},
		{"a", -1, api.ErrRange},
		{"a", api.MaxTime + 1, api.ErrRange},
		{"a", math.MinInt, api.ErrRange},
		{"a", math.MaxInt, api.ErrRange},
	} {
		if got, err := mbox.Entry(k.sender, k.t, "x"); err != k.err || got != "" {
			t.Errorf("Entry(%q, %d) answers %q, %v, not %v", k.sender, k.t, got, err, k.err)
		}
	}
}

// P7.1: each byte, alone, ahead of others, among them, and behind them.
func TestEveryByteOfSender(t *testing.T) {
	for b := range 256 {
		one := string([]byte{byte(b)})
		for _, sender := range []string{one, one + "a", "a" + one + "b", "a" + one} {
			got, err := mbox.Entry(sender, 0, "x")
			if b < 33 || b > 126 {
				if err != api.ErrName || got != "" {
					t.Errorf("Entry of sender %q answers %q, %v", sender, got, err)
				}
				continue
			}
			if want := "From " + sender + " Thu Jan  1 00:00:00 1970\nx\n"; err != nil || got != want {
				t.Errorf("Entry of sender %q answers %q, %v", sender, got, err)
			}
		}
	}
}

// P7.1: which files are in form, and where their entries stand.
func TestScan(t *testing.T) {
	for _, k := range []struct {
		file  string
		spans []api.Span
	}{
		{"", nil},
		{example + example, []api.Span{{Head: 0, Body: 34, End: 36}, {Head: 36, Body: 70, End: 72}}},
		{"From \n\n", []api.Span{{Head: 0, Body: 6, End: 7}}},
		{"From x\n\n", []api.Span{{Head: 0, Body: 7, End: 8}}},
		{"From \r\n\r\n", []api.Span{{Head: 0, Body: 7, End: 9}}},
		{"From a\n>From b\n", []api.Span{{Head: 0, Body: 7, End: 15}}},
		{"From a\nFrom\n", []api.Span{{Head: 0, Body: 7, End: 12}}},
		{"From a\n From b\n", []api.Span{{Head: 0, Body: 7, End: 15}}},
		{"From a\nx\rFrom b\n", []api.Span{{Head: 0, Body: 7, End: 16}}},
		{"From a\n\nFrom b\n\n", []api.Span{{Head: 0, Body: 7, End: 8}, {Head: 8, Body: 15, End: 16}}},
		{"From a\n\n\n\nFrom \x00\n\xff\n", []api.Span{{Head: 0, Body: 7, End: 10}, {Head: 10, Body: 17, End: 19}}},
		{"From From a\nx\nFrom From b\ny\n", []api.Span{{Head: 0, Body: 12, End: 14}, {Head: 14, Body: 26, End: 28}}},
	} {
		checkFile(t, k.file)
		if got, err := mbox.Scan(k.file); err != nil || !slices.Equal(got, k.spans) {
			t.Errorf("Scan(%q) answers %v, %v, not %v", k.file, got, err, k.spans)
		}
		if n := mbox.Count(k.file); n != len(k.spans) {
			t.Errorf("Count(%q) answers %d, not %d", k.file, n, len(k.spans))
		}
	}
}

// P7.1
func TestFilesThatAreNotInForm(t *testing.T) {
	for _, file := range []string{
		"\n",
		"x",
		"x\n",
		"From",
		"From ",
		"From a",
		"From \n",
		"From a\n",
		"From a\nx",
		"From a\n\nx",
		"From a\n\r",
		"From: a\n\n",
		"from a\n\n",
		">From a\n\n",
		" From a\n\n",
		"\nFrom a\n\n",
		"x\n" + example,
		"\r\n" + example,
		"From a\nFrom b\n\n",
		"From a\n\nFrom b",
		"From a\n\nFrom b\n",
		"From a\n\nFrom b\nx",
		"From a\n\nFrom b\nFrom c\n\n",
		"From a\nFrom b\n\nFrom c\n\n",
		example[:len(example)-1],
		example + "x",
		example + "From ",
		example + ">From ",
		example + "\n\x00",
		strings.Repeat(example, 5000) + "From ",
		"\n" + strings.Repeat(example, 5000),
	} {
		checkFile(t, file)
		if got, err := mbox.Scan(file); err != api.ErrForm || len(got) != 0 {
			t.Errorf("Scan(%.80q) answers %v, %v", file, got, err)
		}
		if n := mbox.Count(file); n != -1 {
			t.Errorf("Count(%.80q) answers %d", file, n)
		}
	}
}

// P7.1: where a span may stand, and what it may hold; Head isn't asked.
func TestMessage(t *testing.T) {
	file := "From a\nx\n>From b\n\nFrom c\n\n"
	for _, k := range []struct {
		span    api.Span
		message string
		err     error
	}{
		{api.Span{Head: 0, Body: 7, End: 18}, "x\nFrom b\n", nil},
		{api.Span{Head: 18, Body: 25, End: 26}, "", nil},
		{api.Span{Head: -5, Body: 7, End: 9}, "x", nil},
		{api.Span{Head: math.MaxInt, Body: 7, End: 9}, "x", nil},
		{api.Span{Head: math.MinInt, Body: 8, End: 9}, "", nil},
		{api.Span{Head: 9, Body: 9, End: 17}, "From b", nil},
		{api.Span{Body: 3, End: 7}, "m a", nil},
		{api.Span{Body: 1, End: 18}, "rom a\nx\nFrom b\n", nil},
		{api.Span{Body: 6, End: 7}, "", nil},
		{api.Span{}, "", api.ErrForm},
		{api.Span{Body: 7, End: 7}, "", api.ErrForm},
		{api.Span{Body: 26, End: 26}, "", api.ErrForm},
		{api.Span{Body: 7, End: 8}, "", api.ErrForm},
		{api.Span{Body: 7, End: 16}, "", api.ErrForm},
		{api.Span{Body: 0, End: 7}, "", api.ErrForm},
		{api.Span{Body: 10, End: 17}, "", api.ErrForm},
		{api.Span{Body: 7, End: 25}, "", api.ErrForm},
		{api.Span{Body: 0, End: 26}, "", api.ErrForm},
		{api.Span{Body: -1, End: 7}, "", api.ErrRange},
		{api.Span{Body: 8, End: 7}, "", api.ErrRange},
		{api.Span{Body: 7, End: -1}, "", api.ErrRange},
		{api.Span{Body: -2, End: -1}, "", api.ErrRange},
		{api.Span{Body: 7, End: 27}, "", api.ErrRange},
		{api.Span{Body: 27, End: 27}, "", api.ErrRange},
		{api.Span{Body: 0, End: math.MaxInt}, "", api.ErrRange},
		{api.Span{Body: math.MinInt, End: 7}, "", api.ErrRange},
		{api.Span{Body: math.MaxInt, End: math.MaxInt}, "", api.ErrRange},
		{api.Span{Body: math.MaxInt, End: math.MinInt}, "", api.ErrRange},
	} {
		if got, err := mbox.Message(file, k.span); err != k.err || got != k.message {
			t.Errorf("Message(%v) answers %q, %v, not %q, %v", k.span, got, err, k.message, k.err)
		}
	}
	if got, err := mbox.Message("", api.Span{}); err != api.ErrForm || got != "" {
		t.Errorf("Message of an empty file answers %q, %v", got, err)
	}
}

// P7.1: every span of a file that isn't in form, and beyond its ends.
func TestMessageOfEverySpan(t *testing.T) {
	file := "\nx\n>From a\nFrom b\n>>From c\r\n\nd"
	for body := -2; body <= len(file)+2; body++ {
		for end := -2; end <= len(file)+2; end++ {
			got, err := mbox.Message(file, api.Span{Head: end, Body: body, End: end})
			if body < 0 || end < body || end > len(file) {
				if err != api.ErrRange || got != "" {
					t.Errorf("Message from %d to %d answers %q, %v", body, end, got, err)
				}
				continue
			}
			want, wantErr := quote.Decode(file[body:end])
			if err != wantErr || got != want {
				t.Errorf("Message from %d to %d answers %q, %v, not %q, %v", body, end, got, err, want, wantErr)
			}
		}
	}
}

// P7.1
func TestCompact(t *testing.T) {
	a, b, c := "From a\n>From x\n\n", "From  b c\n\n", example
	for _, k := range []struct {
		file, kept string
		keep       []bool
	}{
		{"", "", nil},
		{a, a, []bool{true}},
		{a, "", []bool{false}},
		{a + b + c, a + b + c, []bool{true, true, true}},
		{a + b + c, a + c, []bool{true, false, true}},
		{a + b + c, b, []bool{false, true, false}},
		{a + b + c, "", []bool{false, false, false}},
		{a + a + a, a + a, []bool{false, true, true}},
	} {
		asked := 0
		got, err := mbox.Compact(k.file, func(i int) bool {
			if i != asked {
				t.Errorf("Compact(%q) asks for %d, not for %d", k.file, i, asked)
			}
			asked++
			return k.keep[i]
		})
		if err != nil || got != k.kept {
			t.Errorf("Compact(%q) with %v answers %q, %v", k.file, k.keep, got, err)
		}
		if asked != len(k.keep) {
			t.Errorf("Compact(%q) asks %d times", k.file, asked)
		}
	}
}

// P7.1: of a file that isn't in form nothing is asked.
func TestCompactRefuses(t *testing.T) {
	for _, file := range []string{"x", "\n", "From a\n", example + "From a\n", "\n" + example, example + "x"} {
		got, err := mbox.Compact(file, func(i int) bool {
			t.Errorf("Compact(%q) asks for %d", file, i)
			return true
		})
		if err != api.ErrForm || got != "" {
			t.Errorf("Compact(%q) answers %q, %v", file, got, err)
		}
		if got, err = mbox.Compact(file, nil); err != api.ErrForm || got != "" {
			t.Errorf("Compact(%q) without keep answers %q, %v", file, got, err)
		}
	}
}

// P7.1: no call panics: a keep that isn't there, or panics, keeps nothing.
func TestCompactOfBadKeep(t *testing.T) {
	if got, err := mbox.Compact(example, nil); err != nil || got != "" {
		t.Errorf("Compact without keep answers %q, %v", got, err)
	}
	var asked []int
	got, err := mbox.Compact(example+"From b\n\n"+example, func(i int) bool {
		asked = append(asked, i)
		if i == 0 {
			panic("no")
		}
		return i == 1
	})
	if err != nil || got != "From b\n\n" || !slices.Equal(asked, []int{0, 1, 2}) {
		t.Errorf("Compact with a keep that panics answers %q, %v, and asked %v", got, err, asked)
	}
}

// P7.1: what Scan answers is the caller's own.
func TestScanIsTheCallersOwn(t *testing.T) {
	file := example + example
	first, _ := mbox.Scan(file)
	clear(first)
	second, err := mbox.Scan(file)
	if err != nil || len(second) != 2 || second[1] != (api.Span{Head: 36, Body: 70, End: 72}) {
		t.Errorf("Scan behind a change of its answer: %v, %v", second, err)
	}
}

// P7.1
func TestEveryShortFile(t *testing.T) {
	pieces := []string{"From ", ">", "\n", "\r", "x", " "}
	all := []string{""}
	from := 0
	for range 6 {
		to := len(all)
		for _, file := range all[from:to] {
			for _, piece := range pieces {
				all = append(all, file+piece)
			}
		}
		from = to
	}
	for _, file := range all {
		checkFile(t, file)
		checkFile(t, "From \n"+file)
		checkFile(t, example+file)
	}
}

// P7.1
func TestAnyFile(t *testing.T) {
	random := rand.New(rand.NewSource(7))
	inForm := 0
	for range 20000 {
		file := someFile(random)
		if checkFile(t, file) {
			inForm++
		}
	}
	if inForm < 2000 || inForm > 18000 {
		t.Errorf("%d files were in form", inForm)
	}
}

// P7.2
func TestRowsOfEntries(t *testing.T) {
	random := rand.New(rand.NewSource(72))
	for range 2000 {
		checkRow(t, someMessages(random, random.Intn(8)), func(i int) (string, int) {
			return someSender(random), random.Intn(api.MaxTime + 1)
		})
	}
}

// P7.2: messages that look like what stands between them.
func TestRowsOfHardMessages(t *testing.T) {
	messages := []string{"", "\n", "\n\n", "\r\n", "x", "From ", "From \n", "From a\n\nFrom b\n\n", ">From ", ">>From \n>", example, example + example, "x\nFrom a", "\x00\xff", "From a Thu Jan  1 00:00:00 1970"}
	for _, one := range messages {
		for _, other := range messages {
			checkRow(t, []string{one, other, one}, func(i int) (string, int) { return "From", i * api.MaxTime / 2 })
		}
	}
	nested := ""
	for range 50 {
		checkRow(t, []string{nested}, func(int) (string, int) { return "a", 0 })
		nested, _ = mbox.Entry("a", 0, nested+"From x\n")
	}
}

// P7.1, P7.2: a great file, in time.
func TestGreatFiles(t *testing.T) {
	const entries = 200000
	file := strings.Repeat(example, entries)
	spans, err := mbox.Scan(file)
	if err != nil || len(spans) != entries || spans[entries-1].End != len(file) || mbox.Count(file) != entries {
		t.Fatalf("Scan of a great file answers %d spans, %v", len(spans), err)
	}
	kept, err := mbox.Compact(file, func(i int) bool { return i%2 == 1 })
	if err != nil || kept != file[len(file)/2:] {
		t.Errorf("Compact of a great file answers %d bytes, %v", len(kept), err)
	}
	checkFile(t, "From "+strings.Repeat(">", 1<<22)+"\n"+strings.Repeat(">", 1<<22)+"From \n")
	checkFile(t, "From \n"+strings.Repeat("\n", 1<<20))
}

func FuzzFile(f *testing.F) {
	f.Add(example+"From a\n>From b\n", 34, 36)
	f.Fuzz(func(t *testing.T, file string, body, end int) {
		checkFile(t, file)
		message, err := mbox.Message(file, api.Span{Body: body, End: end})
		if body < 0 || body > end || end > len(file) {
			if err != api.ErrRange || message != "" {
				t.Fatalf("Message answers %q, %v", message, err)
			}
			return
		}
		if want, wantErr := quote.Decode(file[body:end]); err != wantErr || message != want {
			t.Fatalf("Message answers %q, %v, not %q, %v", message, err, want, wantErr)
		}
	})
}

// checkFile holds Scan, Count, Message and Compact against the model, and tells whether the file is in form.
func checkFile(t *testing.T, file string) bool {
	t.Helper()
	want, inForm := modelScan(file)
	got, err := mbox.Scan(file)
	n := mbox.Count(file)
	kept, keptErr := mbox.Compact(file, func(int) bool { return true })
	if !inForm {
		if err != api.ErrForm || len(got) != 0 || n != -1 || keptErr != api.ErrForm || kept != "" {
			t.Fatalf("of %.80q Scan answers %v, %v, Count %d, Compact %q, %v", file, got, err, n, kept, keptErr)
		}
		return false
	}
	if err != nil || !slices.Equal(got, want) || n != len(want) {
		t.Fatalf("of %.80q Scan answers %v, %v, Count %d, not %v", file, got, err, n, want)
	}
	if keptErr != nil || kept != file {
		t.Fatalf("Compact(%.80q) of all answers %.80q, %v", file, kept, keptErr)
	}
	odd := ""
	for i, s := range want {
		if i%2 == 1 {
			odd += file[s.Head:s.End]
		}
		checkMessage(t, file, s)
	}
	if kept, err = mbox.Compact(file, func(i int) bool { return i%2 == 1 }); err != nil || kept != odd {
		t.Fatalf("Compact(%.80q) of every other one answers %.80q, %v", file, kept, err)
	}
	return true
}

func checkMessage(t *testing.T, file string, s api.Span) {
	t.Helper()
	message, err := mbox.Message(file, s)
	if err != nil || quote.Encode(message) != file[s.Body:s.End] {
		t.Fatalf("Message(%.80q, %v) answers %.80q, %v", file, s, message, err)
	}
}

// modelScan does what the chapter's words say, one after the other.
func modelScan(file string) (spans []api.Span, inForm bool) {
	all := lines.Split(file)
	if len(all) > 0 && !strings.HasPrefix(all[0], "From ") {
		return nil, false
	}
	at := 0
	for i, line := range all {
		if !strings.HasPrefix(line, "From ") {
			at += len(line)
			continue
		}
		behind := i + 1
		for behind < len(all) && !strings.HasPrefix(all[behind], "From ") {
			behind++
		}
		body := lines.Join(all[i+1 : behind])
		if _, err := quote.Decode(body); err != nil || !strings.HasSuffix(line, "\n") {
			return nil, false
		}
		spans = append(spans, api.Span{Head: at, Body: at + len(line), End: at + len(line) + len(body)})
		at += len(line)
	}
	return spans, true
}

// checkRow puts messages in, and reads them again.
func checkRow(t *testing.T, messages []string, head func(i int) (string, int)) {
	t.Helper()
	file := ""
	var heads []string
	for i, message := range messages {
		sender, moment := head(i)
		entry, err := mbox.Entry(sender, moment, message)
		if err != nil {
			t.Fatalf("Entry(%q, %d, %q) answers %v", sender, moment, message, err)
		}
		box, _ := dates.Box(moment)
		if want := fmt.Sprintf("From %s %s\n%s", sender, box, quote.Encode(message)); entry != want {
			t.Fatalf("Entry(%q, %d, %q) answers %q, not %q", sender, moment, message, entry, want)
		}
		file += entry
		heads = append(heads, fmt.Sprint(sender, " ", moment))
	}
	spans, err := mbox.Scan(file)
	if err != nil || len(spans) != len(messages) || mbox.Count(file) != len(messages) {
		t.Fatalf("Scan(%q) answers %v, %v", file, spans, err)
	}
	for i, s := range spans {
		if message, err := mbox.Message(file, s); err != nil || message != messages[i] {
			t.Fatalf("message %d of %q is %q, %v, not %q", i, file, message, err, messages[i])
		}
		sender, moment, err := mbox.Separator(file[s.Head:s.Body])
		if err != nil || fmt.Sprint(sender, " ", moment) != heads[i] {
			t.Fatalf("separator %d of %q is %q, %d, %v, not %s", i, file, sender, moment, err, heads[i])
		}
	}
	checkFile(t, file)
}

func someFile(random *rand.Rand) string {
	pieces := []string{"From a\nx\n", "From \n", "From b", "\n", "x\n", ">From c\n", example, "\r\n", ">", "From\n", "y"}
	var file strings.Builder
	if random.Intn(4) > 0 {
		file.WriteString("From \n\n")
	}
	for range random.Intn(9) {
		// Those with which a file stays in form are drawn more often: most files would otherwise not be.
		some := pieces
		if random.Intn(6) > 0 {
			some = []string{pieces[0], pieces[3], pieces[4], pieces[5], pieces[6], pieces[7], pieces[9]}
		}
		file.WriteString(some[random.Intn(len(some))])
	}
	return file.String()
}

func someMessages(random *rand.Rand, n int) []string {
	pieces := []string{">", "From ", "From ", "From", " ", "\n", "\n", "\r\n", "\x00", "é", "x", example}
	messages := make([]string, n)
	for i := range messages {
		for range random.Intn(12) {
			messages[i] += pieces[random.Intn(len(pieces))]
		}
	}
	return messages
}

func someSender(random *rand.Rand) string {
	sender := make([]byte, 1+random.Intn(200))
	for i := range sender {
		sender[i] = byte(33 + random.Intn(94))
	}
	return string(sender)
}
