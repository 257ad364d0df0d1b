package quote_test

import (
	"math/rand"
	"strings"
	"testing"

	"postbag/api"
	"postbag/lines"
	"postbag/quote"
)

// P3.1, P3.2: messages, and how they stand in a file.
func TestMessage(t *testing.T) {
	for _, k := range []struct{ message, text string }{
		{"From a\n>From b", ">From a\n>>From b\n"},
		{"x\n", "x\n\n"},
		{"", "\n"},
		{"x", "x\n"},
		{"\n", "\n\n"},
		{"\n\n", "\n\n\n"},
		{"\r", "\r\n"},
		{"\r\n", "\r\n\n"},
		{"From ", ">From \n"},
		{"From \n", ">From \n\n"},
		{"From", "From\n"},
		{"From\n", "From\n\n"},
		{">", ">\n"},
		{">\nFrom x", ">\n>From x\n"},
		{"a From b\n From c\n> From d\n", "a From b\n From c\n> From d\n\n"},
		{"From: a\r\nfrom b\r\nFROM c\r\n", "From: a\r\nfrom b\r\nFROM c\r\n\n"},
		{"From a\r\n\r\n>From b\r\n>>>From c\r\nd\r\n", ">From a\r\n\r\n>>From b\r\n>>>>From c\r\nd\r\n\n"},
		{"From From \rFrom x", ">From From \rFrom x\n"},
		{"\x00\xff\n>>From \x80", "\x00\xff\n>>>From \x80\n"},
		{"\u2028From a\u0085\nFrom é", "\u2028From a\u0085\n>From é\n"},
	} {
		if got := quote.Encode(k.message); got != k.text {
			t.Errorf("Encode(%q) answers %q, not %q", k.message, got, k.text)
		}
		if got := quote.Size(k.message); got != len(k.text) {
			t.Errorf("Size(%q) answers %d, not %d", k.message, got, len(k.text))
		}
		if got, err := quote.Decode(k.text); err != nil || got != k.message {
			t.Errorf("Decode(%q) answers %q, %v, not %q", k.text, got, err, k.message)
		}
	}
}

// P3.1
func TestDecodeRefuses(t *testing.T) {
	for _, text := range []string{
		"",
		"x",
		"\r",
		"x\n\r",
		"x\ny",
		">From a",
		"From ",
		"From \n",
		"From a\n",
		"From a\r\n",
		"x\nFrom a\n",
		"x\nFrom a\ny\n\n",
		"\nFrom \n\n",
		">From a\nFrom a\n>From a\n",
		"x\nFrom a",
		strings.Repeat("x\n", 50000) + "From a\n",
		strings.Repeat("x\n", 50000) + ">From a",
	} {
		if got, err := quote.Decode(text); err != api.ErrForm || got != "" {
			t.Errorf("Decode(%q) answers %q, %v", text, got, err)
		}
	}
}

// P3.1, P3.2
func TestEveryShortMessage(t *testing.T) {
	for _, text := range shortTexts() {
		checkMessage(t, text)
		checkText(t, text)
		checkText(t, text+"\n")
	}
}

// P3.1, P3.2: longer rows, up to beyond what one message may have.
func TestAnyMessage(t *testing.T) {
	random := rand.New(rand.NewSource(3))
	for range 2000 {
		text := someText(random, random.Intn(60))
		checkMessage(t, text)
		checkText(t, text)
		checkText(t, text+"\n")
	}
	for _, text := range []string{
		someText(random, 100000),
		strings.Repeat("From \n", 50000),
		strings.Repeat(">From x\r\n", 50000),
		strings.Repeat("\n", 1<<20),
		strings.Repeat(">", 1<<20) + "From ",
		strings.Repeat(">", 1<<20),
		strings.Repeat("From ", 1<<18),
	} {
		checkMessage(t, text)
		checkText(t, text+"\n")
	}
}

func FuzzMessage(f *testing.F) {
	f.Add("From a\n>From b")
	f.Fuzz(func(t *testing.T, text string) {
		checkMessage(t, text)
		checkText(t, text)
	})
}

// checkMessage holds Encode and Size against the model, and Decode against what it undoes.
func checkMessage(t *testing.T, message string) {
	t.Helper()
	var each []string
	for _, line := range lines.Split(message) {
		each = append(each, modelQuote(line))
	}
	want := lines.Join(each) + "\n"
	text := quote.Encode(message)
	if text != want {
		t.Fatalf("Encode(%q) answers %q, not %q", message, text, want)
	}
	if n := quote.Size(message); n != len(want) {
		t.Fatalf("Size(%q) answers %d, not %d", message, n, len(want))
	}
	if back, err := quote.Decode(text); err != nil || back != message {
		t.Fatalf("Decode of Encode of %q is %q, %v", message, back, err)
	}
}

// checkText holds Decode against the model, and Encode against what it undoes.
func checkText(t *testing.T, text string) {
	t.Helper()
	want, inForm := modelDecode(text)
	got, err := quote.Decode(text)
	if !inForm {
		if err != api.ErrForm || got != "" {
			t.Fatalf("Decode(%q) answers %q, %v", text, got, err)
		}
		return
	}
	if err != nil || got != want {
		t.Fatalf("Decode(%q) answers %q, %v, not %q", text, got, err, want)
	}
	if back := quote.Encode(got); back != text {
		t.Fatalf("Encode of Decode of %q is %q", text, back)
	}
}

func modelDecode(text string) (message string, inForm bool) {
	if text == "" || text[len(text)-1] != '\n' {
		return "", false
	}
	var each []string
	for _, line := range lines.Split(text) {
		if marks, named := taken(line); named && marks == 0 {
			return "", false
		}
		each = append(each, modelUnquote(line))
	}
	joined := lines.Join(each)
	return joined[:len(joined)-1], true
}

func someText(random *rand.Rand, length int) string {
	pieces := []string{">", ">", "From ", "From ", "From", " ", "\n", "\n", "\r\n", "\x00", "é", "x"}
	var text strings.Builder
	for range length {
		text.WriteString(pieces[random.Intn(len(pieces))])
	}
	return text.String()
}
