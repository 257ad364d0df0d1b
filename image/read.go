package image

import (
	"slices"
	"strconv"
	"strings"

	"postbag/api"
	"postbag/mbox"
)

// A reader reads a state out of its files. What isn't as a writer writes it is read as something else, or not at all.
type reader struct {
	api.State
}

// read is the state of files that rise by name: the index, whose name comes ahead of those of the other files, says what these are.
func read(files []api.File) api.State {
	var r reader
	for _, f := range files {
		r.file(f)
	}
	return r.State
}

// file goes through the state for a file, and not through the files for what the state has: so each file's bytes are read once, even if the state has many things of one number.
func (r *reader) file(f api.File) {
	if f.Name == indexName {
		r.index(string(f.Bytes))
	}
	if i := slices.IndexFunc(r.Boxes, func(b api.Box) bool { return boxFile(b) == f.Name }); i >= 0 {
		fill(r.Boxes[i].Messages, string(f.Bytes))
	}
	if i := slices.IndexFunc(r.Queue, func(item api.Item) bool { return itemFile(item) == f.Name }); i >= 0 {
		r.Queue[i].Body = string(f.Bytes)
	}
}

// fill gives messages what their box's file has of them.
func fill(messages []api.Message, file string) {
	spans, _ := mbox.Scan(file)
	for i := range min(len(messages), len(spans)) {
		m, s := &messages[i], spans[i]
		_, m.Date, _ = mbox.Separator(file[s.Head:s.Body])
		m.Body, _ = mbox.Message(file, s)
	}
}

func (r *reader) index(text string) {
	for line := range strings.Lines(text) {
		r.line(&words{strings.TrimSuffix(line, "\n")})
	}
}

// line reads a line of the index. Where an entry begins and ends is left: the box's file tells that, too.
func (r *reader) line(w *words) {
	switch w.word() {
	case stateWord:
		r.NextValid, r.NextItem = w.number(), w.number()
	case boxWord:
		r.Boxes = append(r.Boxes, api.Box{User: w.number(), Valid: w.number(), Next: w.number(), Name: w.word()})
	case messageWord:
		r.message(api.Message{Uid: w.number(), Flags: w.number()})
	case subWord:
		r.Subs = append(r.Subs, api.Sub{User: w.number(), Name: w.word()})
	case itemWord:
		r.Queue = append(r.Queue, api.Item{Id: w.number(), Born: w.number(), Tries: w.number(), Due: w.number(), For: w.numbers(), From: w.word()})
	}
}

// message puts a message into the box whose line came last.
func (r *reader) message(m api.Message) {
	if len(r.Boxes) == 0 {
		return
	}
	b := &r.Boxes[len(r.Boxes)-1]
	b.Messages = append(b.Messages, m)
}

// words are those of a line that aren't read yet.
type words struct {
	left string
}

func (w *words) word() string {
	word, left, _ := strings.Cut(w.left, " ")
	w.left = left
	return word
}

func (w *words) number() int {
	n, _ := strconv.Atoi(w.word())
	return n
}

// numbers reads no more than an item may have, however many the line says there are.
func (w *words) numbers() []int {
	var list []int
	for range min(w.number(), api.MaxUsers) {
		list = append(list, w.number())
	}
	return list
}
