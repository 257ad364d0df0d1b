package check_test

import (
	"bytes"
	"hash/adler32"
	"math/big"
	"math/rand"
	"testing"

	"postbag/check"
)

// P4.1: sums that were worked out by hand, or by another program.
func TestSum(t *testing.T) {
	if check.Start() != 1 {
		t.Errorf("Start answers %#x", check.Start())
	}
	for _, k := range []struct {
		text string
		sum  uint32
	}{
		{"", 0x00000001},
		{"\x00", 0x00010001},
		{"\x00\x00\x00", 0x00030001},
		{"\x01", 0x00020002},
		{"\xff", 0x01000100},
		{"\xff\xff", 0x02ff01ff},
		{"a", 0x00620062},
		{"abc", 0x024d0127},
		{"cba", 0x02510127},
		{"Wikipedia", 0x11e60398},
		{"é", 0x0231016d},
	} {
		if sum := check.Sum([]byte(k.text)); sum != k.sum {
			t.Errorf("Sum(%q) answers %#x, not %#x", k.text, sum, k.sum)
		}
	}
	if sum := check.Sum(nil); sum != 1 {
		t.Errorf("Sum(nil) answers %#x", sum)
	}
}

// P4.1: both numbers stay below 65521.
func TestSumGoesRound(t *testing.T) {
	low := append(bytes.Repeat([]byte{255}, 256), 240) // 65520: low is 65521, and so 0
	for _, k := range []struct {
		b   []byte
		low uint32
	}{
		{low[:256], 65281},
		{append(low[:256:256], 239), 65520},
		{low, 0},
		{append(low[:257:257], 1), 1},
		{append(low[:256:256], 255), 15},
	} {
		if sum := check.Sum(k.b); sum&0xffff != k.low || sum != modelSum(1, k.b) {
			t.Errorf("Sum of %d bytes answers %#x, low is not %#x", len(k.b), sum, k.low)
		}
	}
	// Of bytes 0 high is how many they are.
	for _, k := range []struct {
		size int
		sum  uint32
	}{{65520, 65520<<16 | 1}, {65521, 1}, {65522, 1<<16 | 1}, {65536, 15<<16 | 1}, {131042, 1}} {
		if sum := check.Sum(make([]byte, k.size)); sum != k.sum {
			t.Errorf("Sum of %d bytes 0 answers %#x, not %#x", k.size, sum, k.sum)
		}
	}
}

// P4.1: long rows of the greatest bytes, against another program's sum.
func TestSumOfLong(t *testing.T) {
	for _, size := range []int{5551, 5552, 5553, 65535, 65536, 1 << 20, 1<<24 + 7} {
		b := bytes.Repeat([]byte{255}, size)
		if sum := check.Sum(b); sum != adler32.Checksum(b) {
			t.Errorf("Sum of %d bytes 255 answers %#x, not %#x", size, sum, adler32.Checksum(b))
		}
	}
}

// P4.1: all texts of at most two bytes.
func TestSumOfEveryShortText(t *testing.T) {
	for first := range 256 {
		checkSum(t, []byte{byte(first)})
		for second := range 256 {
			checkSum(t, []byte{byte(first), byte(second)})
		}
	}
}

// P4.1
func TestSumOfAny(t *testing.T) {
	random := rand.New(rand.NewSource(4))
	for range 2000 {
		b := someBytes(random, random.Intn(300))
		checkSum(t, b)
		cut := random.Intn(len(b) + 1)
		if sum := check.More(check.Sum(b[:cut]), b[cut:]); sum != check.Sum(b) {
			t.Fatalf("More of the sum of %x, and %x, answers %#x, not %#x", b[:cut], b[cut:], sum, check.Sum(b))
		}
	}
}

// P4.1: bytes that come one by one, or in pieces of which some are none.
func TestMoreInPieces(t *testing.T) {
	b := someBytes(rand.New(rand.NewSource(5)), 70000)
	for _, size := range []int{1, 2, 1000, 65521, 70000} {
		sum := check.Start()
		for at := 0; at < len(b); at += size {
			sum = check.More(sum, b[at:min(at+size, len(b))])
			sum = check.More(sum, nil)
		}
		if sum != check.Sum(b) {
			t.Errorf("in pieces of %d the sum is %#x, not %#x", size, sum, check.Sum(b))
		}
	}
}

// P4.1: a sum that is handed in may be any number; its two halves are taken modulo 65521.
func TestMoreOfAnyNumber(t *testing.T) {
	for _, k := range []struct {
		sum  uint32
		text string
		want uint32
	}{
		{0, "", 0},
		{1, "", 1},
		{0, "a", 0x00610061},
		{0x00620062, "bc", 0x024d0127},
		{0x0000fff0, "", 0x0000fff0},
		{0x0000fff1, "", 0},
		{0x0000ffff, "", 14},
		{0xfff00000, "", 0xfff00000},
		{0xfff10000, "", 0},
		{0xffffffff, "", 0x000e000e},
		{0xfff1fff1, "", 0},
		{0xfff0fff0, "", 0xfff0fff0},
		{0xfff0fff0, "\x00", 0xffeffff0},
		{0xfff0fff0, "\x01", 0xfff00000},
		{0xfff0fff0, "\x02", 0x00000001},
		{0xffffffff, "\x01", 0x001d000f},
		{0xffffffff, "\x00\x00", 0x002a000e},
	} {
		if sum := check.More(k.sum, []byte(k.text)); sum != k.want {
			t.Errorf("More(%#x, %q) answers %#x, not %#x", k.sum, k.text, sum, k.want)
		}
	}
	random := rand.New(rand.NewSource(6))
	halves := []uint32{0, 1, 254, 255, 256, 65265, 65266, 65519, 65520, 65521, 65522, 65535}
	for _, high := range halves {
		for _, low := range halves {
			sum, b := high<<16|low, someBytes(random, random.Intn(4))
			if got, want := check.More(sum, b), modelSum(sum, b); got != want {
				t.Errorf("More(%#x, %x) answers %#x, not %#x", sum, b, got, want)
			}
		}
	}
}

func checkSum(t *testing.T, b []byte) {
	t.Helper()
	got := check.Sum(b)
	if want := modelSum(1, b); got != want {
		t.Fatalf("Sum(%x) answers %#x, not %#x", b, got, want)
	}
	if more := check.More(check.Start(), b); more != got {
		t.Fatalf("More(Start, %x) answers %#x, not %#x", b, more, got)
	}
}

// modelSum adds without a bound, and takes the modulo last.
func modelSum(sum uint32, b []byte) uint32 {
	low, high := big.NewInt(int64(sum%65536)), big.NewInt(int64(sum/65536))
	for _, c := range b {
		low.Add(low, big.NewInt(int64(c)))
		high.Add(high, low)
	}
	modulus := big.NewInt(65521)
	return uint32(high.Mod(high, modulus).Int64()*65536 + low.Mod(low, modulus).Int64())
}

func someBytes(random *rand.Rand, size int) []byte {
	b := make([]byte, size)
	for i := range b {
		b[i] = byte(random.Intn(256))
	}
	return b
}
