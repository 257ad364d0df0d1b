package check_test

import (
	"bytes"
	"encoding/binary"
	"math/rand"
	"slices"
	"testing"

	"postbag/api"
	"postbag/check"
)

const head = 8

// P4.1
func TestRecord(t *testing.T) {
	for _, k := range []struct{ text, record string }{
		{"", "\x00\x00\x00\x00\x00\x00\x00\x01"},
		{"\x00", "\x00\x00\x00\x01\x00\x01\x00\x01\x00"},
		{"abc", "\x00\x00\x00\x03\x02\x4d\x01\x27abc"},
		{"xy", "\x00\x00\x00\x02\x01\x6b\x00\xf2xy"},
		{"\xff\xff", "\x00\x00\x00\x02\x02\xff\x01\xff\xff\xff"},
	} {
		if got := record(t, []byte(k.text)); string(got) != k.record {
			t.Errorf("Record(%q) answers %x, not %x", k.text, got, k.record)
		}
	}
	if got := record(t, nil); string(got) != "\x00\x00\x00\x00\x00\x00\x00\x01" {
		t.Errorf("Record(nil) answers %x", got)
	}
}

// P4.1: how many bytes they are takes up to three of the four bytes.
func TestRecordCounts(t *testing.T) {
	for _, k := range []struct {
		size  int
		count string
	}{
		{255, "\x00\x00\x00\xff"},
		{256, "\x00\x00\x01\x00"},
		{65535, "\x00\x00\xff\xff"},
		{65536, "\x00\x01\x00\x00"},
		{399999, "\x00\x06\x1a\x7f"},
		{400000, "\x00\x06\x1a\x80"},
	} {
		b := bytes.Repeat([]byte{200}, k.size)
		got := record(t, b)
		if string(got[:4]) != k.count || binary.BigEndian.Uint32(got[4:]) != check.Sum(b) || !bytes.Equal(got[head:], b) {
			t.Errorf("Record of %d bytes begins with %x", k.size, got[:head])
		}
	}
}

// P4.1: at most MaxRecord bytes.
func TestRecordRefusesLong(t *testing.T) {
	if check.MaxRecord != 400000 {
		t.Errorf("MaxRecord is %d", check.MaxRecord)
	}
	for _, size := range []int{400001, 400008, 1 << 20} {
		if got, err := check.Record(make([]byte, size)); err != api.ErrLong || got != nil {
			t.Errorf("Record of %d bytes answers %d bytes, %v", size, len(got), err)
		}
	}
}

// P4.1, P4.2
func TestTake(t *testing.T) {
	const abc = "\x00\x00\x00\x03\x02\x4d\x01\x27abc"
	const none = "\x00\x00\x00\x00\x00\x00\x00\x01"
	for _, k := range []struct {
		text, record, rest string
		whole              bool
	}{
		{abc, "abc", "", true},
		{abc + "d", "abc", "d", true},
		{abc + abc, "abc", abc, true},
		{abc + none, "abc", none, true},
		{none, "", "", true},
		{none + "d", "", "d", true},
		{none + abc[:10], "", abc[:10], true},
		{"", "", "", false},
		{"\x00", "", "", false},
		{none[:7], "", "", false},
		{abc[:7], "", "", false},
		{abc[:8], "", "", false},
		{abc[:10], "", "", false},
		{"x" + abc, "", "", false},
		{abc[1:], "", "", false},
		{"\x00\x00\x00\x03\x02\x4d\x01\x28abc", "", "", false},
		{"\x00\x00\x00\x03\x02\x4d\x01\x27abd", "", "", false},
		{"\x00\x00\x00\x03\x02\x4d\x01\x27acb", "", "", false},
		{"\x00\x00\x00\x02\x02\x4d\x01\x27abc", "", "", false},
		{"\x00\x00\x00\x04\x02\x4d\x01\x27abc", "", "", false},
		{"\x03\x00\x00\x00\x27\x01\x4d\x02abc", "", "", false},
		{"\x00\x00\x00\x03\x01\x27\x02\x4dabc", "", "", false},
		{"\x00\x00\x00\x00\x00\x00\x00\x00", "", "", false},
		{"\x00\x00\x00\x00\x00\x00\xff\xf2", "", "", false}, // 1 modulo 65521, but not the sum
		{"\x00\x00\x00\x00\xff\xf1\x00\x01", "", "", false},
		{"\x80\x00\x00\x00\x00\x00\x00\x01", "", "", false},
		{"\xff\xff\xff\xff\xff\xff\xff\xff", "", "", false},
		{"\xff\xff\xff\xf8\x00\x00\x00\x01" + abc, "", "", false},
	} {
		record, rest, whole := check.Take([]byte(k.text))
		if string(record) != k.record || string(rest) != k.rest || whole != k.whole {
			t.Errorf("Take(%q) answers %q, %q, %v", k.text, record, rest, whole)
		}
	}
	if record, rest, whole := check.Take(nil); record != nil || rest != nil || whole {
		t.Errorf("Take(nil) answers %q, %q, %v", record, rest, whole)
	}
}

// P4.1: a record of more than MaxRecord bytes isn't whole, though its sum is right.
func TestTakeRefusesLong(t *testing.T) {
	for _, k := range []struct {
		size  int
		whole bool
	}{{399999, true}, {400000, true}, {400001, false}, {400008, false}, {1 << 20, false}} {
		b := modelRecord(make([]byte, k.size))
		if held, rest, whole := check.Take(append(b, 1, 2)); whole != k.whole || whole && (len(held) != k.size || len(rest) != 2) || !whole && (held != nil || rest != nil) {
			t.Errorf("Take of a record of %d bytes answers %d bytes, %d bytes, %v", k.size, len(held), len(rest), whole)
		}
		list, tail := check.Records(append(b, 1, 2))
		if wantTail := len(b) + 2; k.whole && (len(list) != 1 || tail != 2) || !k.whole && (len(list) != 0 || tail != wantTail) {
			t.Errorf("Records of a record of %d bytes answers %d records, %d", k.size, len(list), tail)
		}
	}
}

// P4.2: what is recorded is taken again, whatever is behind it.
func TestTakeOfRecord(t *testing.T) {
	random := rand.New(rand.NewSource(7))
	for _, size := range []int{0, 1, 2, 7, 8, 9, 255, 256, 65520, 65521, 65536, 399999, 400000} {
		for _, rest := range [][]byte{nil, {0}, {255, 0}, someBytes(random, 20), record(t, []byte("x"))} {
			b := someBytes(random, size)
			held, behind, whole := check.Take(slices.Concat(record(t, b), rest))
			if !whole || !bytes.Equal(held, b) || !bytes.Equal(behind, rest) {
				t.Errorf("Take of Record of %d bytes, and %x, answers %d bytes, %x, %v", size, rest, len(held), behind, whole)
			}
		}
	}
}

// P4.2: any one byte, changed to any other one.
func TestTakeOfChanged(t *testing.T) {
	random := rand.New(rand.NewSource(8))
	texts := [][]byte{{}, {0}, {255}, []byte("abc"), make([]byte, 20), bytes.Repeat([]byte{255}, 20), someBytes(random, 40)}
	for _, b := range texts {
		text := record(t, b)
		for at := range text {
			old := text[at]
			for by := 1; by < 256; by++ {
				text[at] = old + byte(by)
				checkNone(t, text)
			}
			text[at] = old
		}
	}
}

// P4.2: a byte of a long record; its change is seen though the sum goes round.
func TestTakeOfChangedLong(t *testing.T) {
	random := rand.New(rand.NewSource(9))
	text := record(t, someBytes(random, check.MaxRecord))
	for _, at := range []int{head, head + 1, head + 65521, len(text) / 2, len(text) - 1} {
		for _, by := range []byte{1, 128, 255} {
			text[at] += by
			checkNone(t, text)
			text[at] -= by
		}
	}
}

// P4.2
func TestTakeOfCut(t *testing.T) {
	random := rand.New(rand.NewSource(10))
	for _, b := range [][]byte{{}, {0}, []byte("abc"), make([]byte, 300), someBytes(random, 300)} {
		text := record(t, b)
		for size := range text {
			checkNone(t, text[:size])
		}
	}
	long := record(t, make([]byte, check.MaxRecord))
	for _, size := range []int{head, len(long) / 2, len(long) - 65521, len(long) - 1} {
		checkNone(t, long[:size])
	}
}

// P4.1: a row of bytes whose low number is 0, and bytes 0 behind it, have one sum: a count that is changed to the row's makes a record that is whole.
func TestTakeOfChangedCount(t *testing.T) {
	row := append(bytes.Repeat([]byte{255}, 256), 240)
	text := record(t, append(slices.Clone(row), 0, 0))
	text[3] -= 2
	if held, rest, whole := check.Take(text); !whole || !bytes.Equal(held, row) || string(rest) != "\x00\x00" {
		t.Errorf("Take answers %x, %x, %v", held, rest, whole)
	}
}

// P4.1: bytes behind the end of what is handed in aren't looked at.
func TestTakeStaysInside(t *testing.T) {
	text := record(t, []byte("abc"))
	checkNone(t, text[:len(text)-1:len(text)])
	list, tail := check.Records(text[: len(text)-1 : len(text)])
	if len(list) != 0 || tail != len(text)-1 {
		t.Errorf("Records answers %q, %d", list, tail)
	}
}

// P4.1
func TestRecords(t *testing.T) {
	abc, none, x := record(t, []byte("abc")), record(t, nil), record(t, []byte("x"))
	bad := slices.Clone(x)
	bad[head] = 'y'
	for _, k := range []struct {
		text []byte
		list []string
		tail int
	}{
		{nil, nil, 0},
		{[]byte{1}, nil, 1},
		{make([]byte, 100), nil, 100},
		{abc, []string{"abc"}, 0},
		{none, []string{""}, 0},
		{slices.Concat(none, none, none), []string{"", "", ""}, 0},
		{slices.Concat(abc, none, x), []string{"abc", "", "x"}, 0},
		{slices.Concat(abc, x, []byte{0}), []string{"abc", "x"}, 1},
		{slices.Concat(abc, x, x[:8]), []string{"abc", "x"}, 8},
		{slices.Concat(abc, bad, x), []string{"abc"}, 18},
		{slices.Concat(bad, abc, x), nil, 29},
		{slices.Concat(abc, []byte{0}, x), []string{"abc"}, 10},
		{slices.Concat(x, x, x[:8]), []string{"x", "x"}, 8},
		{record(t, abc), []string{string(abc)}, 0},
	} {
		list, tail := check.Records(k.text)
		if !slices.Equal(texts(list), k.list) || tail != k.tail {
			t.Errorf("Records(%x) answers %q, %d, not %q, %d", k.text, list, tail, k.list, k.tail)
		}
	}
}

// P4.1, P4.2: rows of records, cut and changed anywhere, against a model that reads them by another program's means.
func TestRecordsOfAny(t *testing.T) {
	random := rand.New(rand.NewSource(11))
	for range 3000 {
		var text []byte
		var want []string
		for range random.Intn(6) {
			b := someBytes(random, random.Intn(12))
			want = append(want, string(b))
			text = append(text, record(t, b)...)
		}
		if list, tail := check.Records(text); !slices.Equal(texts(list), want) || tail != 0 {
			t.Fatalf("Records(%x) answers %q, %d, not %q", text, list, tail, want)
		}
		text = append(text, someBytes(random, random.Intn(10))...)
		checkRecords(t, text)
		checkRecords(t, text[:random.Intn(len(text)+1)])
		if len(text) > 0 {
			text[random.Intn(len(text))] += byte(1 + random.Intn(255))
			checkRecords(t, text)
		}
	}
}

// P4.1: very many records are told in a time that grows with them, not with their square.
func TestRecordsOfMany(t *testing.T) {
	none := record(t, nil)
	list, tail := check.Records(append(bytes.Repeat(none, 200000), 9))
	if len(list) != 200000 || tail != 1 {
		t.Errorf("Records answers %d records, %d", len(list), tail)
	}
}

// P4.1: nothing that is handed in is changed or kept, and what is answered is the caller's own.
func TestOwnBytes(t *testing.T) {
	b := []byte("abc")
	made := record(t, b)
	text := append(slices.Clone(made), 7, 8)
	was := slices.Clone(text)
	held, rest, _ := check.Take(text)
	list, _ := check.Records(append(text[:11:11], made...))
	check.Sum(text)
	check.More(5, text)
	if string(b) != "abc" || !bytes.Equal(text, was) {
		t.Fatalf("what was handed in is now %q, %q", b, text)
	}
	clear(b)
	clear(text)
	if string(made[head:]) != "abc" || string(held) != "abc" || string(rest) != "\x07\x08" || string(list[0]) != "abc" {
		t.Errorf("with what was handed in, answers change: %q, %q, %q, %q", made, held, rest, list)
	}
	clear(made)
	_ = append(held, 1, 2)
	clear(held)
	_ = append(list[0], 'z', 'z', 'z', 'z', 'z', 'z', 'z', 'z', 'z', 'z')
	clear(list[0])
	if string(rest) != "\x07\x08" || string(list[1]) != "abc" {
		t.Errorf("with an answer, another one changes: %q, %q", rest, list[1])
	}
}

func FuzzRecords(f *testing.F) {
	f.Add([]byte("\x00\x00\x00\x03\x02\x4d\x01\x27abc"))
	f.Fuzz(func(t *testing.T, text []byte) {
		checkRecords(t, text)
		checkRecords(t, modelRecord(text))
	})
}

// checkRecords holds Records, and Take at each record, against the model.
func checkRecords(t *testing.T, text []byte) {
	t.Helper()
	var want []string
	at := text
	for {
		model, wantWhole := modelTake(at)
		held, rest, whole := check.Take(at)
		if whole != wantWhole || !bytes.Equal(held, model) {
			t.Fatalf("Take(%x) answers %x, %x, %v, not %x, %v", at, held, rest, whole, model, wantWhole)
		}
		if !whole {
			if held != nil || rest != nil {
				t.Fatalf("Take(%x) answers %x, %x beside false", at, held, rest)
			}
			break
		}
		if !bytes.Equal(rest, at[head+len(held):]) {
			t.Fatalf("Take(%x) answers %x as what is behind", at, rest)
		}
		if back := record(t, held); !bytes.Equal(slices.Concat(back, rest), at) {
			t.Fatalf("Record of what Take answered of %x is %x", at, back)
		}
		want = append(want, string(held))
		at = rest
	}
	if list, tail := check.Records(text); !slices.Equal(texts(list), want) || tail != len(at) {
		t.Fatalf("Records(%x) answers %x, %d, not %x, %d", text, list, tail, want, len(at))
	}
}

func checkNone(t *testing.T, text []byte) {
	t.Helper()
	if held, rest, whole := check.Take(text); whole || held != nil || rest != nil {
		t.Fatalf("Take of %d bytes answers %d bytes, %d bytes, %v", len(text), len(held), len(rest), whole)
	}
}

func record(t *testing.T, b []byte) []byte {
	t.Helper()
	made, err := check.Record(b)
	if err != nil {
		t.Fatalf("Record of %d bytes answers %v", len(b), err)
	}
	if len(made) != head+len(b) {
		t.Fatalf("Record of %d bytes has %d", len(b), len(made))
	}
	return made
}

func modelRecord(b []byte) []byte {
	text := binary.BigEndian.AppendUint32(nil, uint32(len(b)))
	text = binary.BigEndian.AppendUint32(text, modelSum(1, b))
	return append(text, b...)
}

func modelTake(text []byte) (held []byte, whole bool) {
	if len(text) < head {
		return nil, false
	}
	size := int64(binary.BigEndian.Uint32(text))
	if size > 400000 || size > int64(len(text)-head) {
		return nil, false
	}
	held = text[head : head+size]
	if binary.BigEndian.Uint32(text[4:]) != modelSum(1, held) {
		return nil, false
	}
	return held, true
}

func texts(list [][]byte) []string {
	var all []string
	for _, b := range list {
		all = append(all, string(b))
	}
	return all
}
