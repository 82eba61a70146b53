package octets_test

import (
	"bytes"
	"hash/crc32"
	"math"
	"slices"
	"strings"
	"testing"

	"cartage/octets"
)

const greatest = math.MaxUint64

// numbers has both sides of each power of two: there sizes and digits change.
func numbers() []uint64 {
	l := []uint64{0, 127, 128, 300, 16383, 16384, 0x0102030405060708, greatest}
	for i := range 64 {
		l = append(l, 1<<i-1, 1<<i, 1<<i+1)
	}
	return l
}

// roomy tells a row with room behind it that is filled, so that who appends to the row itself is seen.
func roomy(text string) (row, whole []byte) {
	whole = append([]byte(text), bytes.Repeat([]byte{0xee}, 32)...)
	return whole[:len(text)], whole
}

// places has ordinary and wrong places and sizes.
func places() []int {
	return []int{math.MinInt, math.MinInt + 1, -9, -1, 0, 1, 2, 3, 7, 8, 9, 10, 11, math.MaxInt - 8, math.MaxInt - 1, math.MaxInt}
}

func TestPut(t *testing.T) {
	for _, c := range []struct {
		b    string
		size int
		n    uint64
		want string
	}{
		{"", 1, 5, "\x05"},
		{"", 4, 0x01020304, "\x04\x03\x02\x01"},
		{"a", 3, 0x01020304, "a\x04\x03\x02"},
		{"ab", 8, 0x0102030405060708, "ab\x08\x07\x06\x05\x04\x03\x02\x01"},
		{"", 8, greatest, "\xff\xff\xff\xff\xff\xff\xff\xff"},
		{"", 7, greatest, "\xff\xff\xff\xff\xff\xff\xff"},
		{"", 8, 0, "\x00\x00\x00\x00\x00\x00\x00\x00"},
		{"a", 0, 5, "a"},
		{"a", -1, 5, "a"},
		{"a", math.MinInt, 5, "a"},
		{"a", 9, 5, "a\x05\x00\x00\x00\x00\x00\x00\x00"},
		{"a", math.MaxInt, 5, "a\x05\x00\x00\x00\x00\x00\x00\x00"},
		{"", -1, 5, ""},
	} {
		if got := octets.Put([]byte(c.b), c.size, c.n); string(got) != c.want {
			t.Errorf("Put(%q, %d, %x) = %x, want %x", c.b, c.size, c.n, got, c.want)
		}
	}
	if got := octets.Put(nil, 2, 0x0201); string(got) != "\x01\x02" {
		t.Errorf("Put(nil, 2, 201) = %x", got)
	}
}

func TestGet(t *testing.T) {
	b := []byte("\x01\x02\x03\x04\x05\x06\x07\x08\xff")
	for _, c := range []struct {
		at, size int
		n        uint64
	}{
		{0, 1, 0x01},
		{8, 1, 0xff},
		{0, 2, 0x0201},
		{6, 3, 0xff0807},
		{2, 4, 0x06050403},
		{0, 8, 0x0807060504030201},
		{1, 8, 0xff08070605040302},
	} {
		if n, ok := octets.Get(b, c.at, c.size); n != c.n || !ok {
			t.Errorf("Get(%x, %d, %d) = %x, %v, want %x, true", b, c.at, c.size, n, ok, c.n)
		}
	}
}

func TestGetRefuses(t *testing.T) {
	b := []byte("\x01\x02\x03\x04\x05\x06\x07\x08\xff")
	for _, c := range []struct {
		b        []byte
		at, size int
	}{
		{b, -1, 1}, {b, -1, 2}, {b, -8, 8}, {b, math.MinInt, 1}, {b, math.MinInt, 8},
		{b, 0, 0}, {b, 9, 0}, {b, 0, -1}, {b, 3, math.MinInt}, {b, 0, 9}, {b, 0, math.MaxInt}, {b, 1, math.MaxInt},
		{b, 9, 1}, {b, 8, 2}, {b, 2, 8}, {b, 100, 1}, {b, math.MaxInt, 1}, {b, math.MaxInt - 7, 8}, {b, math.MaxInt, 8},
		{b[:3], 2, 2}, {b[:3], 0, 4}, // the bytes behind the row are not its own
		{nil, 0, 1}, {nil, 0, 0}, {[]byte{}, 0, 8},
	} {
		if n, ok := octets.Get(c.b, c.at, c.size); n != 0 || ok {
			t.Errorf("Get(%x, %d, %d) = %x, %v, want 0, false", c.b, c.at, c.size, n, ok)
		}
	}
}

func TestWhatWasPutIsGot(t *testing.T) {
	for _, n := range numbers() {
		for size := 1; size <= 8; size++ {
			for at := range 3 {
				b := octets.Put(bytes.Repeat([]byte{0xaa}, at), size, n)
				want := n << (64 - 8*size) >> (64 - 8*size)
				if got, ok := octets.Get(append(b, 0xbb), at, size); got != want || !ok {
					t.Errorf("%x by %d bytes at %d: %x, %v", n, size, at, got, ok)
				}
			}
		}
	}
}

func TestPutVarAndGetVar(t *testing.T) {
	for _, c := range []struct {
		n    uint64
		want string
	}{
		{0, "\x00"},
		{1, "\x01"},
		{127, "\x7f"},
		{128, "\x80\x01"},
		{300, "\xac\x02"},
		{16383, "\xff\x7f"},
		{16384, "\x80\x80\x01"},
		{1<<63 - 1, "\xff\xff\xff\xff\xff\xff\xff\xff\x7f"},
		{1 << 63, "\x80\x80\x80\x80\x80\x80\x80\x80\x80\x01"},
		{greatest, "\xff\xff\xff\xff\xff\xff\xff\xff\xff\x01"},
	} {
		if got := octets.PutVar([]byte("ab"), c.n); string(got) != "ab"+c.want {
			t.Errorf("PutVar(ab, %d) = %x, want 6162%x", c.n, got, c.want)
		}
		for _, behind := range []string{"", "\x00", "\x80", "\xff\xff"} {
			n, size, ok := octets.GetVar([]byte(c.want + behind))
			if n != c.n || size != len(c.want) || !ok {
				t.Errorf("GetVar(%x %x) = %d, %d, %v", c.want, behind, n, size, ok)
			}
		}
	}
	if got := octets.PutVar(nil, 300); string(got) != "\xac\x02" {
		t.Errorf("PutVar(nil, 300) = %x", got)
	}
}

func TestGetVarRefuses(t *testing.T) {
	nines := strings.Repeat("\xff", 9)
	for _, s := range []string{
		"", "\x80", "\xff", "\xac\x82", nines, // they end too early
		nines + "\x80", nines + "\xff", strings.Repeat("\x80", 10), // and ten bytes, too
		nines + "\xff\x01", nines + "\x80\x00", nines + "\x81\x01", strings.Repeat("\x80", 10) + "\x01", strings.Repeat("\x80", 99) + "\x01", // more than ten bytes
		nines + "\x02", nines + "\x03", nines + "\x7f", strings.Repeat("\x80", 9) + "\x02", // above 2^64 - 1
		"\x80\x00", "\xff\x00", "\xac\x82\x00", "\x80\x80\x00", nines + "\x00", strings.Repeat("\x80", 9) + "\x00", // more digits than they must
	} {
		for _, behind := range []string{"", "\xff"} {
			if n, size, ok := octets.GetVar([]byte(s + behind)); n != 0 || size != 0 || ok {
				t.Errorf("GetVar(%x %x) = %d, %d, %v, want 0, 0, false", s, behind, n, size, ok)
			}
		}
	}
	if n, size, ok := octets.GetVar(nil); n != 0 || size != 0 || ok {
		t.Errorf("GetVar(nil) = %d, %d, %v", n, size, ok)
	}
}

func TestVarOfManyNumbers(t *testing.T) {
	for _, n := range numbers() {
		b := octets.PutVar(nil, n)
		digits := 1
		for rest := n >> 7; rest > 0; rest >>= 7 {
			digits++
		}
		if len(b) != digits {
			t.Errorf("%d has %d bytes, want %d", n, len(b), digits)
		}
		if got, size, ok := octets.GetVar(b); got != n || size != digits || !ok {
			t.Errorf("%d is read as %d, %d, %v", n, got, size, ok)
		}
		for short := range len(b) { // the bytes behind the row are not its own
			if got, size, ok := octets.GetVar(b[:short]); got != 0 || size != 0 || ok {
				t.Errorf("%x is read as %d, %d, %v", b[:short], got, size, ok)
			}
		}
	}
}

// TestOneTextOfEach: whatever is read is what is written of the number.
func TestOneTextOfEach(t *testing.T) {
	for x := range 1 << 24 {
		b := []byte{byte(x >> 16), byte(x >> 8), byte(x)}
		n, size, ok := octets.GetVar(b)
		if ok && (size < 1 || size > 3 || !bytes.Equal(octets.PutVar(nil, n), b[:size])) {
			t.Fatalf("GetVar(%x) = %d, %d, %v", b, n, size, ok)
		}
		if !ok && (n != 0 || size != 0) {
			t.Fatalf("GetVar(%x) = %d, %d, %v", b, n, size, ok)
		}
	}
}

func TestCrc(t *testing.T) {
	for _, c := range []struct {
		text string
		want uint32
	}{
		{"", 0},
		{"123456789", 0xcbf43926},
		{"\x00", 0xd202ef8d},
		{"\xff", 0xff000000},
		{"a", 0xe8b7be43},
		{"\x00\x00\x00\x00", 0x2144df1c},
	} {
		if got := octets.Crc([]byte(c.text)); got != c.want {
			t.Errorf("Crc(%q) = %08x, want %08x", c.text, got, c.want)
		}
	}
	if got := octets.Crc(nil); got != 0 {
		t.Errorf("Crc(nil) = %08x", got)
	}
	long := make([]byte, 1006)
	for i := range long {
		long[i] = byte(i * i >> 3)
		if got, want := octets.Crc(long[:i]), crc32.ChecksumIEEE(long[:i]); got != want {
			t.Errorf("Crc of %d bytes: %08x, want %08x", i, got, want)
		}
	}
}

// TestNewRows is R1 of what is answered: it shares nothing with b, nor with another answer.
func TestNewRows(t *testing.T) {
	calls := map[string]func(b []byte) []byte{
		"Put":          func(b []byte) []byte { return octets.Put(b, 2, 0x0201) },
		"Put of 0":     func(b []byte) []byte { return octets.Put(b, 0, 7) },
		"Put below 0":  func(b []byte) []byte { return octets.Put(b, -1, 7) },
		"Put above 8":  func(b []byte) []byte { return octets.Put(b, 9, 7) },
		"PutVar":       func(b []byte) []byte { return octets.PutVar(b, 300) },
		"PutVar of 10": func(b []byte) []byte { return octets.PutVar(b, greatest) },
	}
	for name, call := range calls {
		for _, text := range []string{"", "a", "abcdefgh"} {
			row, whole := roomy(text)
			before := slices.Clone(whole)
			first, second := call(row), call(row)
			want := slices.Clone(first)
			if !bytes.Equal(whole, before) {
				t.Errorf("%s wrote over what it was handed: %x", name, whole)
			}
			fill(second, 0x11)
			if !bytes.Equal(first, want) {
				t.Errorf("%s: two answers share bytes", name)
			}
			fill(whole, 0x22)
			if !bytes.Equal(first, want) {
				t.Errorf("%s: the answer shares bytes with b", name)
			}
			fill(first, 0x33)
			if !bytes.Equal(whole, bytes.Repeat([]byte{0x22}, len(whole))) {
				t.Errorf("%s: b shares bytes with the answer", name)
			}
		}
	}
}

// fill writes over a row, and over the room behind it.
func fill(b []byte, x byte) {
	b = b[:cap(b)]
	for i := range b {
		b[i] = x
	}
}

// TestHandedInStays is R1 of what is handed in, of the calls that only read.
func TestHandedInStays(t *testing.T) {
	for _, text := range []string{"", "\x00", "\xac\x02", "\x80", "\x80\x00", "123456789", strings.Repeat("\xff", 12)} {
		row, whole := roomy(text)
		before := slices.Clone(whole)
		octets.GetVar(row)
		octets.Crc(row)
		for _, at := range places() {
			for _, size := range places() {
				octets.Get(row, at, size)
			}
		}
		if !bytes.Equal(whole, before) {
			t.Errorf("%x became %x", before, whole)
		}
	}
}

// TestNoPanic is R2, and R4: whatever is handed in, the calls end, twice with the same answers.
func TestNoPanic(t *testing.T) {
	for _, b := range [][]byte{nil, {}, {0}, {0x80}, []byte("abc"), bytes.Repeat([]byte{0xff}, 11), make([]byte, 1000)} {
		for _, size := range places() {
			one, two := octets.Put(b, size, greatest), octets.Put(b, size, greatest)
			if !bytes.Equal(one, two) || len(one) != len(b)+min(max(size, 0), 8) {
				t.Errorf("Put(%x, %d, ..) = %x, then %x", b, size, one, two)
			}
			for _, at := range places() {
				n, ok := octets.Get(b, at, size)
				again, okAgain := octets.Get(b, at, size)
				if n != again || ok != okAgain {
					t.Errorf("Get(%x, %d, %d) = %x, %v, then %x, %v", b, at, size, n, ok, again, okAgain)
				}
			}
		}
		if octets.Crc(b) != octets.Crc(b) {
			t.Errorf("Crc(%x) is told in two ways", b)
		}
	}
}
