package disk

import "bytes"

// file is a file as it is now. What of it is sure is not held beside that: it is what the open steps, undone from the last one on, leave. So a Sync costs nothing, however long the file is.
type file struct {
	number int
	bytes  []byte
	open   []step
}

// step is an open step of a file, and how it is undone: all of it but the first bytes that it wrote.
type step struct {
	writes bool // it is an Append or a Write: some of its bytes may stay
	size   int
	undo   func(b []byte, stay int) []byte
}

// has tells whether there is a place n in the file, its end among them.
func (f *file) has(n int) bool { return n >= 0 && n <= len(f.bytes) }

func (f *file) put(b []byte) step {
	size := len(f.bytes)
	f.bytes = append(f.bytes, b...)
	return step{writes: true, size: len(b), undo: func(now []byte, stay int) []byte {
		return now[:size+stay]
	}}
}

func (f *file) write(at int, b []byte) step {
	size := len(f.bytes)
	old := bytes.Clone(f.bytes[at:min(size, at+len(b))])
	n := copy(f.bytes[at:], b)
	f.bytes = append(f.bytes, b[n:]...)
	return step{writes: true, size: len(b), undo: func(now []byte, stay int) []byte {
		over := min(stay, len(old))
		copy(now[at+over:], old[over:])
		return now[:max(size, at+stay)]
	}}
}

func (f *file) cut(n int) step {
	gone := bytes.Clone(f.bytes[n:])
	f.bytes = f.bytes[:n]
	return step{undo: func(now []byte, stay int) []byte {
		return append(now, gone...)
	}}
}

// restore leaves as many of the open steps as is drawn, and of the next one as many bytes.
func (f *file) restore(draw func(most int) int) {
	first := draw(len(f.open))
	behind := f.open[first:]
	f.open = nil
	if len(behind) == 0 {
		return
	}
	for i := len(behind) - 1; i > 0; i-- {
		f.bytes = behind[i].undo(f.bytes, 0)
	}
	stay := 0
	if behind[0].writes {
		stay = draw(behind[0].size)
	}
	f.bytes = behind[0].undo(f.bytes, stay)
}

// forget lets go of the bytes, and of those that undoing would need.
func (f *file) forget() {
	f.bytes = nil
	for i := range f.open {
		f.open[i].undo = func(now []byte, stay int) []byte { return now }
	}
}
