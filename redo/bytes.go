package redo

import (
	"bytes"
	"slices"

	"postbag/api"
	"postbag/check"
)

// Bytes is a change's bytes.
func Bytes(ops []api.Op) ([]byte, error) {
	if !isInForm(ops) {
		return nil, api.ErrForm
	}
	b := make([]byte, 0, written(ops))
	b = append(b, byte(len(ops)))
	for _, op := range ops {
		b = append(b, byte(op.Kind), byte(len(op.Name)))
		b = append(b, op.Name...)
		b = appendNumber(b, op.At)
		b = appendNumber(b, len(op.Bytes))
		b = append(b, op.Bytes...)
	}
	return b, nil
}

// Ops is the change of bytes.
func Ops(b []byte) ([]api.Op, error) {
	r := reader{rest: b}
	ops := make([]api.Op, r.number(1))
	for i := range ops {
		ops[i] = r.op()
	}
	if r.short || len(r.rest) > 0 || !isInForm(ops) {
		return nil, api.ErrForm
	}
	return ops, nil
}

func isInForm(ops []api.Op) bool {
	// How many there are is asked first: it bounds all that is asked behind it.
	if len(ops) < 1 || len(ops) > api.MaxOps {
		return false
	}
	for i, op := range ops {
		if !isOpInForm(op) || hasName(ops[:i], op.Name) {
			return false
		}
	}
	return written(ops) <= check.MaxRecord
}

func isOpInForm(op api.Op) bool {
	if !isRight(op.Name) || op.Name == logName {
		return false
	}
	switch op.Kind {
	case api.OpAppend:
		return op.At >= 0 && op.At <= api.MaxQuota
	case api.OpReplace:
		return op.At == 0
	case api.OpRemove:
		return op.At == 0 && len(op.Bytes) == 0
	}
	return false
}

func hasName(ops []api.Op, name string) bool {
	return slices.ContainsFunc(ops, func(op api.Op) bool { return op.Name == name })
}

// isRight is layer 5's word of a name, which that layer doesn't export.
func isRight(name string) bool {
	for i := range len(name) {
		c := name[i]
		if !(c >= 'a' && c <= 'z' || c >= '0' && c <= '9' || c == '-' || c == '.') {
			return false
		}
	}
	return len(name) >= 1 && len(name) <= api.MaxFile
}

// written is how many bytes a change has, known without writing them.
func written(ops []api.Op) int {
	n := 1
	for _, op := range ops {
		n += 1 + 1 + len(op.Name) + numberSize + numberSize + len(op.Bytes)
	}
	return n
}

const numberSize = 4

func appendNumber(b []byte, n int) []byte {
	return append(b, byte(n>>24), byte(n>>16), byte(n>>8), byte(n))
}

// reader takes pieces from the beginning of bytes. Where these are used up it goes on with none, and tells so at the end.
type reader struct {
	rest  []byte
	short bool
}

func (r *reader) take(n int) []byte {
	if n > len(r.rest) {
		r.short = true
		return nil
	}
	taken := r.rest[:n]
	r.rest = r.rest[n:]
	return taken
}

func (r *reader) number(size int) int {
	n := 0
	for _, c := range r.take(size) {
		n = n<<8 | int(c)
	}
	return n
}

func (r *reader) op() api.Op {
	kind := r.number(1)
	name := string(r.take(r.number(1)))
	at := r.number(numberSize)
	return api.Op{Kind: kind, Name: name, At: at, Bytes: bytes.Clone(r.take(r.number(numberSize)))}
}
