package redo_test

import (
	"bytes"
	"fmt"
	"math"
	"math/rand"
	"reflect"
	"slices"
	"strings"
	"testing"

	"postbag/api"
	"postbag/check"
	"postbag/redo"
)

func appendTo(name string, at int, b string) api.Op {
	return api.Op{Kind: api.OpAppend, Name: name, At: at, Bytes: []byte(b)}
}

func replace(name, b string) api.Op {
	return api.Op{Kind: api.OpReplace, Name: name, Bytes: []byte(b)}
}

func remove(name string) api.Op { return api.Op{Kind: api.OpRemove, Name: name} }

// sameOps holds changes against each other; no bytes and nil are the same.
func sameOps(a, b []api.Op) bool {
	return slices.EqualFunc(a, b, func(x, y api.Op) bool {
		return x.Kind == y.Kind && x.Name == y.Name && x.At == y.At && bytes.Equal(x.Bytes, y.Bytes)
	})
}

// told is a change as a text.
func told(ops []api.Op) string {
	var texts []string
	for _, op := range ops {
		texts = append(texts, fmt.Sprintf("%d %s %d %.40q", op.Kind, op.Name, op.At, op.Bytes))
	}
	return strings.Join(texts, "; ")
}

// many is a change of n operations.
func many(n int) []api.Op {
	var ops []api.Op
	for i := range n {
		ops = append(ops, replace(fmt.Sprint("f", i), "x"))
	}
	return ops
}

// P6.1: how a change is written, and read again.
func TestBytesAndOps(t *testing.T) {
	for _, k := range []struct {
		ops  []api.Op
		want string
	}{
		{[]api.Op{remove("a")}, "\x01\x03\x01a\x00\x00\x00\x00\x00\x00\x00\x00"},
		{[]api.Op{replace("a", "")}, "\x01\x02\x01a\x00\x00\x00\x00\x00\x00\x00\x00"},
		{[]api.Op{appendTo("b", 0, "xyz")}, "\x01\x01\x01b\x00\x00\x00\x00\x00\x00\x00\x03xyz"},
		{[]api.Op{appendTo("b", 0x01020304, "")}, "\x01\x01\x01b\x01\x02\x03\x04\x00\x00\x00\x00"},
		{[]api.Op{appendTo("b", api.MaxQuota, "")}, "\x01\x01\x01b\x40\x00\x00\x00\x00\x00\x00\x00"},
		{[]api.Op{replace("a-b.9", "\x00\xff"), remove("z0"), appendTo("a", 258, "q")}, "\x03\x02\x05a-b.9\x00\x00\x00\x00\x00\x00\x00\x02\x00\xff\x03\x02z0\x00\x00\x00\x00\x00\x00\x00\x00\x01\x01a\x00\x00\x01\x02\x00\x00\x00\x01q"},
		{[]api.Op{replace("c", strings.Repeat("x", 0x012345))}, "\x01\x02\x01c\x00\x00\x00\x00\x00\x01\x23\x45" + strings.Repeat("x", 0x012345)},
		{[]api.Op{remove("redo.")}, "\x01\x03\x05redo.\x00\x00\x00\x00\x00\x00\x00\x00"},
	} {
		b, err := redo.Bytes(k.ops)
		if string(b) != k.want || err != nil {
			t.Errorf("Bytes(%q) = %q, %v; want %q", told(k.ops), b, err, k.want)
		}
		if ops, err := redo.Ops([]byte(k.want)); !sameOps(ops, k.ops) || err != nil {
			t.Errorf("Ops(%q) = %q, %v", k.want, told(ops), err)
		}
	}
}

// formCases are changes at the edges of what is in form.
func formCases() map[string]struct {
	ops []api.Op
	is  bool
} {
	type c = struct {
		ops []api.Op
		is  bool
	}
	one := func(op api.Op, is bool) c { return c{[]api.Op{op}, is} }
	long := strings.Repeat("a", api.MaxFile)
	const head = 1 + 1 + 1 + 1 + 4 + 4 // of a change of one operation of a name of one byte
	big := strings.Repeat("b", check.MaxRecord-head)
	cases := map[string]c{
		"none":                   {nil, false},
		"MaxOps":                 {many(api.MaxOps), true},
		"more than MaxOps":       {many(api.MaxOps + 1), false},
		"256":                    {many(256), false},
		"257":                    {many(257), false},
		"kind 0":                 one(api.Op{Name: "a"}, false),
		"kind 4":                 one(api.Op{Kind: 4, Name: "a"}, false),
		"kind 257":               one(api.Op{Kind: 257, Name: "a"}, false),
		"kind 258":               one(api.Op{Kind: 258, Name: "a"}, false),
		"kind -1":                one(api.Op{Kind: -1, Name: "a"}, false),
		"kind least":             one(api.Op{Kind: math.MinInt, Name: "a"}, false),
		"no name":                one(remove(""), false),
		"longest name":           one(remove(long), true),
		"name too long":          one(remove(long+"a"), false),
		"name far too long":      one(remove(strings.Repeat("a", 256+1)), false),
		"name redo":              one(remove("redo"), false),
		"name redo replaced":     one(replace("redo", "x"), false),
		"name redo appended":     one(appendTo("redo", 0, "x"), false),
		"name redos":             one(remove("redos"), true),
		"name red":               one(remove("red"), true),
		"At below 0":             one(appendTo("a", -1, "x"), false),
		"At least":               one(appendTo("a", math.MinInt, "x"), false),
		"At MaxQuota":            one(appendTo("a", api.MaxQuota, "x"), true),
		"At above MaxQuota":      one(appendTo("a", api.MaxQuota+1, "x"), false),
		"At 1<<32":               one(appendTo("a", 1<<32, "x"), false),
		"At greatest":            one(appendTo("a", math.MaxInt, ""), false),
		"At of OpReplace":        one(api.Op{Kind: api.OpReplace, Name: "a", At: 1}, false),
		"At of OpReplace, -1":    one(api.Op{Kind: api.OpReplace, Name: "a", At: -1}, false),
		"At of OpRemove":         one(api.Op{Kind: api.OpRemove, Name: "a", At: 1}, false),
		"Bytes of OpRemove":      one(api.Op{Kind: api.OpRemove, Name: "a", Bytes: []byte("x")}, false),
		"no Bytes of OpRemove":   one(api.Op{Kind: api.OpRemove, Name: "a", Bytes: []byte{}}, true),
		"a name twice":           {[]api.Op{replace("a", "x"), remove("a")}, false},
		"a name twice, far":      {append(many(5), appendTo("f1", 0, "")), false},
		"a name twice, behind":   {append(many(api.MaxOps-1), remove("f14")), false},
		"two names":              {[]api.Op{replace("a", "x"), remove("b")}, true},
		"the second one wrong":   {[]api.Op{replace("a", "x"), remove("B")}, false},
		"the last one wrong":     {append(many(api.MaxOps-1), remove("")), false},
		"MaxRecord":              one(replace("a", big), true),
		"above MaxRecord":        one(replace("a", big+"b"), false),
		"above MaxRecord by two": {[]api.Op{replace("a", big), remove("b")}, false},
		"two, MaxRecord":         {[]api.Op{replace("a", big[:len(big)-11]), remove("b")}, true},
		"two, above MaxRecord":   {[]api.Op{replace("a", big[:len(big)-10]), remove("b")}, false},
		"a longer name":          one(replace("aa", big), false),
	}
	for i := range 256 {
		is := i >= 'a' && i <= 'z' || i >= '0' && i <= '9' || i == '-' || i == '.'
		cases[fmt.Sprintf("name of byte %d", i)] = one(replace("a"+string([]byte{byte(i)})+"b", "x"), is)
		cases[fmt.Sprintf("name begins with byte %d", i)] = one(replace(string([]byte{byte(i)}), "x"), is)
	}
	return cases
}

// P6.1: a change that isn't in form has no bytes.
func TestInForm(t *testing.T) {
	for name, k := range formCases() {
		b, err := redo.Bytes(k.ops)
		if k.is && (err != nil || len(b) == 0) || !k.is && (err != api.ErrForm || len(b) > 0) {
			t.Errorf("%s: Bytes answers %d bytes, %v", name, len(b), err)
		}
	}
}

// write is the bytes of any change, in form or not, as far as there is room for its numbers.
func write(ops []api.Op) []byte {
	b := []byte{byte(len(ops))}
	number := func(n int) { b = append(b, byte(n>>24), byte(n>>16), byte(n>>8), byte(n)) }
	for _, op := range ops {
		b = append(b, byte(op.Kind), byte(len(op.Name)))
		b = append(b, op.Name...)
		number(op.At)
		number(len(op.Bytes))
		b = append(b, op.Bytes...)
	}
	return b
}

func fits(ops []api.Op) bool {
	for _, op := range ops {
		if op.Kind != int(byte(op.Kind)) || len(op.Name) > 255 || op.At != int(uint32(op.At)) {
			return false
		}
	}
	return len(ops) < 256
}

// P6.1: bytes of a change that isn't in form are none.
func TestOpsInForm(t *testing.T) {
	for name, k := range formCases() {
		if !fits(k.ops) {
			continue
		}
		ops, err := redo.Ops(write(k.ops))
		if k.is && (err != nil || !sameOps(ops, k.ops)) || !k.is && (err != api.ErrForm || len(ops) > 0) {
			t.Errorf("%s: Ops answers %d operations, %v", name, len(ops), err)
		}
	}
}

// P6.1: bytes cut short, and bytes with something behind them, are no change's.
func TestOpsOfCutBytes(t *testing.T) {
	b := write([]api.Op{replace("ab", "xyz"), remove("c"), appendTo("d", 7, "pq")})
	for n := range b {
		if ops, err := redo.Ops(b[:n]); err != api.ErrForm || len(ops) > 0 {
			t.Errorf("Ops of the first %d bytes: %q, %v", n, told(ops), err)
		}
	}
	for _, behind := range []string{"\x00", "x", string(b)} {
		if ops, err := redo.Ops(append(bytes.Clone(b), behind...)); err != api.ErrForm || len(ops) > 0 {
			t.Errorf("Ops with %q behind: %q, %v", behind, told(ops), err)
		}
	}
	for _, b := range []string{"", "\x00", "\xff", "\x01", "\x01\x01\x01a\x00\x00\x00\x00\xff\xff\xff\xff", "\x01\x01\x01a\x00\x00\x00\x00\x7f\xff\xff\xffx", "\x01\x01\xffa"} {
		if ops, err := redo.Ops([]byte(b)); err != api.ErrForm || len(ops) > 0 {
			t.Errorf("Ops(%q) = %q, %v", b, told(ops), err)
		}
	}
}

// holdOps: what Ops answers of any bytes is a change in form whose bytes these are, or there is none.
func holdOps(t *testing.T, b []byte) {
	ops, err := redo.Ops(b)
	if err != nil {
		if err != api.ErrForm || len(ops) > 0 {
			t.Errorf("Ops(%q) = %q, %v", b, told(ops), err)
		}
		return
	}
	if back, err := redo.Bytes(ops); err != nil || !bytes.Equal(back, b) {
		t.Errorf("Ops(%q) = %q, whose bytes are %q, %v", b, told(ops), back, err)
	}
}

// P6.1: every byte of a change's bytes changed to every other one.
func TestOpsOfChangedBytes(t *testing.T) {
	b := write([]api.Op{replace("ab", "xyz"), remove("c"), appendTo("d", 7, "pq")})
	for i := range b {
		for c := range 256 {
			changed := bytes.Clone(b)
			changed[i] = byte(c)
			holdOps(t, changed)
		}
	}
}

// P6.1: random changes are read as they were written.
func TestRandomChanges(t *testing.T) {
	r := rand.New(rand.NewSource(6))
	for range 3000 {
		ops := randomOps(r, 1+r.Intn(api.MaxOps), 40)
		b, err := redo.Bytes(ops)
		if err != nil || !bytes.Equal(b, write(ops)) {
			t.Fatalf("Bytes(%q) = %q, %v", told(ops), b, err)
		}
		if back, err := redo.Ops(b); err != nil || !sameOps(back, ops) {
			t.Fatalf("Ops(Bytes(%q)) = %q, %v", told(ops), told(back), err)
		}
	}
}

// randomOps is a change in form of n operations of the files f0 to f(names-1).
func randomOps(r *rand.Rand, n, names int) []api.Op {
	var ops []api.Op
	for _, i := range r.Perm(names)[:min(n, names)] {
		op := api.Op{Kind: 1 + r.Intn(3), Name: fmt.Sprint("f", i)}
		if op.Kind == api.OpAppend {
			op.At = r.Intn(5)
		}
		if op.Kind != api.OpRemove {
			op.Bytes = make([]byte, r.Intn(6))
			r.Read(op.Bytes)
		}
		ops = append(ops, op)
	}
	return ops
}

// P6.1: what is handed in isn't changed, and what is answered is the caller's own.
func TestBytesAreTheCallersOwn(t *testing.T) {
	given := []api.Op{replace("a", "xyz"), appendTo("b", 3, "pq")}
	b, err := redo.Bytes(given)
	if err != nil || !reflect.DeepEqual(given, []api.Op{replace("a", "xyz"), appendTo("b", 3, "pq")}) {
		t.Fatalf("Bytes changed what it was given: %q, %v", told(given), err)
	}
	kept := bytes.Clone(b)
	given[0].Bytes[0] = 'Q'
	if !bytes.Equal(b, kept) {
		t.Error("the caller's change shows in the bytes")
	}
	ops, err := redo.Ops(b)
	if err != nil || !bytes.Equal(b, kept) {
		t.Fatalf("Ops changed what it was given: %q, %v", b, err)
	}
	clear(b)
	if !sameOps(ops, []api.Op{replace("a", "xyz"), appendTo("b", 3, "pq")}) {
		t.Errorf("the caller's change shows in the operations: %q", told(ops))
	}
	_ = append(ops[0].Bytes, "overrun and over all that may be behind"...)
	if string(ops[1].Bytes) != "pq" {
		t.Error("two lists of one answer share their memory")
	}
}

// P6.1: Ops ends, and never panics, whatever it is given.
func FuzzOps(f *testing.F) {
	f.Add(write([]api.Op{replace("ab", "xyz"), remove("c"), appendTo("d", 7, "pq")}))
	f.Add([]byte{1, 3, 1, 'a', 0, 0, 0, 0, 0, 0, 0, 0})
	f.Add([]byte{255, 1, 255})
	f.Fuzz(func(t *testing.T, b []byte) { holdOps(t, b) })
}
