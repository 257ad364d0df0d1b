package image

import (
	"strconv"
	"strings"

	"postbag/api"
	"postbag/mbox"
)

const (
	indexName = "index"
	boxMark   = "m"
	itemMark  = "q"
	sender    = "MAILER-DAEMON"
)

// The words that begin an index's lines.
const (
	stateWord   = "state"
	boxWord     = "box"
	messageWord = "message"
	subWord     = "sub"
	itemWord    = "item"
)

func boxFile(b api.Box) string { return boxMark + strconv.Itoa(b.Valid) }

func itemFile(item api.Item) string { return itemMark + strconv.Itoa(item.Id) }

// A writer writes a state's files: the index into its builder, the others beside it.
type writer struct {
	strings.Builder
	files []api.File
}

// written is a writer that has written a state.
func written(s api.State) (*writer, error) {
	if !Has(s) {
		return nil, api.ErrForm
	}
	w := &writer{}
	w.state(s)
	return w, nil
}

func (w *writer) state(s api.State) {
	w.line(stateWord, s.NextValid, s.NextItem)
	for _, b := range s.Boxes {
		w.box(b)
	}
	for _, sub := range s.Subs {
		w.line(subWord, sub.User, sub.Name)
	}
	for _, item := range s.Queue {
		w.line(itemWord, item.Id, item.Born, item.Tries, item.Due, item.For, item.From)
		w.file(itemFile(item), []byte(item.Body))
	}
}

func (w *writer) box(b api.Box) {
	w.line(boxWord, b.User, b.Valid, b.Next, b.Name)
	var entries []byte
	for _, m := range b.Messages {
		at := len(entries)
		entries = append(entries, entryOf(m)...)
		w.line(messageWord, m.Uid, m.Flags, at, len(entries))
	}
	if len(entries) > 0 {
		w.file(boxFile(b), entries)
	}
}

// entryOf needn't ask for an error: the state is in form, and so are its dates.
func entryOf(m api.Message) string {
	entry, _ := mbox.Entry(sender, m.Date, m.Body)
	return entry
}

func (w *writer) file(name string, b []byte) {
	w.files = append(w.files, api.File{Name: name, Bytes: b})
}

// line writes a line of the index.
func (w *writer) line(words ...any) {
	for i, word := range words {
		if i > 0 {
			w.WriteByte(' ')
		}
		w.word(word)
	}
	w.WriteByte('\n')
}

// word writes a text or a number as one word; a list as how many it has, and these.
func (w *writer) word(word any) {
	switch word := word.(type) {
	case string:
		w.WriteString(word)
	case int:
		w.WriteString(strconv.Itoa(word))
	case []int:
		w.word(len(word))
		for _, n := range word {
			w.WriteByte(' ')
			w.word(n)
		}
	}
}
