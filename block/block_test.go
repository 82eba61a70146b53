package block_test

import (
	"bytes"
	"encoding/binary"
	"hash/crc32"
	"slices"
	"strings"
	"testing"

	"cartage/api"
	"cartage/block"
)

// told writes the block that a size and a text would make, by a way that is not the program's own; the size need not be the text's.
func told(size int, text []byte) []byte {
	b := binary.LittleEndian.AppendUint16(nil, uint16(size))
	b = append(b, text...)
	return binary.LittleEndian.AppendUint32(b, crc32.ChecksumIEEE(b))
}

// blockOf writes the block of a text.
func blockOf(text []byte) []byte { return told(len(text), text) }

// blocksOf writes the blocks of texts, one behind the other.
func blocksOf(l [][]byte) []byte {
	var b []byte
	for _, text := range l {
		b = append(b, blockOf(text)...)
	}
	return b
}

// long has so many bytes, of all kinds, no two neighbours alike.
func long(size int) []byte {
	b := make([]byte, size)
	for i := range b {
		b[i] = byte(i*i>>3 + 7*i)
	}
	return b
}

// texts has texts that have blocks; some of them look like a block, or like the beginning of one.
func texts() [][]byte {
	return [][]byte{
		nil, {}, {0}, {0xff}, []byte("a"), []byte("abc"), {0, 0}, {0xe9, 0x03},
		blockOf(nil), blockOf([]byte("abc")), make([]byte, 1000), bytes.Repeat([]byte{0xff}, 1000),
		long(1), long(254), long(255), long(256), long(257), long(511), long(512), long(767), long(768), long(999), long(1000),
	}
}

// lists has lists of texts that have blocks.
func lists() [][][]byte {
	return [][][]byte{
		nil, {}, {nil}, {{}}, {nil, nil}, {[]byte("abc")}, {[]byte("abc"), nil, []byte("d")},
		{nil, []byte("abc")}, {[]byte("abc"), []byte("abc")}, {long(1000)}, {long(1000), long(1000), nil, long(256)}, texts(),
	}
}

func sameTexts(a, b [][]byte) bool { return slices.EqualFunc(a, b, bytes.Equal) }

func TestEncode(t *testing.T) {
	for _, c := range []struct{ text, want string }{
		{"", "\x00\x00\xff\x12\xd9\x41"},
		{"a", "\x01\x00a\xeb\xe2\x36\xc4"},
	} {
		if b, err := block.Encode([]byte(c.text)); err != api.OK || string(b) != c.want {
			t.Errorf("Encode(%q) = %x, %v, want %x", c.text, b, err, c.want)
		}
	}
	for _, text := range texts() {
		if b, err := block.Encode(text); err != api.OK || !bytes.Equal(b, blockOf(text)) {
			t.Errorf("Encode of %d bytes: %x, %v", len(text), b, err)
		}
	}
}

func TestBlockOfNothingHasSixBytes(t *testing.T) {
	for _, nothing := range [][]byte{nil, {}} {
		if b, err := block.Encode(nothing); err != api.OK || len(b) != 6 {
			t.Errorf("Encode of nothing: %x, %v", b, err)
		}
	}
}

func TestEncodeRefuses(t *testing.T) {
	for _, size := range []int{1001, 1002, 1 << 16, 1<<16 + 5, 1 << 20} {
		if b, err := block.Encode(make([]byte, size)); err != api.ErrArg || len(b) != 0 {
			t.Errorf("Encode of %d bytes: %d bytes, %v", size, len(b), err)
		}
	}
}

// TestDecode: what was told is read as it was, whatever stands behind it.
func TestDecode(t *testing.T) {
	for _, text := range texts() {
		b := blockOf(text)
		for _, behind := range [][]byte{nil, {0}, {0xff, 0xff, 0xff}, blockOf([]byte("xyz")), long(2000)} {
			got, size, err := block.Decode(append(slices.Clone(b), behind...))
			if err != api.OK || !bytes.Equal(got, text) || size != len(text)+6 {
				t.Errorf("Decode of %d bytes with %d behind: %x, %d, %v", len(text), len(behind), got, size, err)
			}
		}
	}
}

// TestEachSize: each size up to 1000 is told and read; all above are refused, even with a sum that is right.
func TestEachSize(t *testing.T) {
	whole := long(1<<16 + 6)
	for size := range 1 << 16 {
		if size > 1000 {
			if size < 1100 || size%997 == 0 || size&(size-1) == 0 || size > 65500 {
				refused(t, told(size, whole[:size]), api.ErrForm)
			}
			continue
		}
		b, err := block.Encode(whole[:size])
		text, n, errBack := block.Decode(b)
		if err != api.OK || errBack != api.OK || n != size+6 || !bytes.Equal(text, whole[:size]) {
			t.Errorf("%d bytes: %v, read as %d, %v", size, err, n, errBack)
		}
	}
}

// refused asks Decode for the error, and nothing beside it (R5); All tells it of the block at 0.
func refused(t *testing.T, b []byte, want api.Errno) {
	t.Helper()
	text, size, err := block.Decode(b)
	if err != want || len(text) != 0 || size != 0 {
		t.Errorf("Decode(%x) = %x, %d, %v, want %v", b[:min(len(b), 40)], text, size, err, want)
	}
	if len(b) == 0 {
		return // All has no block to read there
	}
	if l, at, err := block.All(b); err != want || len(l) != 0 || at != 0 {
		t.Errorf("All(%x) = %x, %d, %v, want %v", b[:min(len(b), 40)], l, at, err, want)
	}
}

func TestDecodeRefuses(t *testing.T) {
	for _, c := range []struct {
		b    string
		want api.Errno
	}{
		{"", api.ErrForm},
		{"\x00", api.ErrForm},
		{"\xff", api.ErrForm},
		{"\xe9\x03", api.ErrForm}, // 1001
		{"\xff\xff", api.ErrForm},
		{"\x00\x04" + strings.Repeat("\x00", 2000), api.ErrForm}, // 1024, and bytes enough
		{"\xe9\x03" + strings.Repeat("\x00", 2000), api.ErrForm},
		{"\xe8\x03", api.ErrForm}, // 1000 may be, but there are no bytes
		{"\x00\x00", api.ErrForm},
		{"\x00\x00\xff\x12\xd9", api.ErrForm},
		{"\x01\x00abcd", api.ErrForm},  // the end is asked ahead of the sum
		{"\x01\x00abcde", api.ErrSum},  // all bytes are there
		{"\x01\x00abcdef", api.ErrSum}, // more than all
		{"\x00\x00\x00\x00\x00\x00", api.ErrSum},
		{"\x00\x00\x41\xd9\x12\xff", api.ErrSum},                         // the sum, the highest byte first
		{"\x00\x01a\xeb\xe2\x36\xc4", api.ErrForm},                       // the size, the highest byte first
		{"\xe8\x03" + strings.Repeat("\x00", 1003), api.ErrForm},         // one byte too few
		{"\xe8\x03" + strings.Repeat("\x00", 1004), api.ErrSum},          // just as many as there must be
		{"\x03\x00abc" + string(sumOf("abc")), api.ErrSum},               // the sum of the text alone
		{"\x03\x00abd" + string(blockOf([]byte("abc"))[5:]), api.ErrSum}, // the sum of another text
	} {
		refused(t, []byte(c.b), c.want)
	}
}

// sumOf tells the sum of a text, as bytes.
func sumOf(text string) []byte {
	return binary.LittleEndian.AppendUint32(nil, crc32.ChecksumIEEE([]byte(text)))
}

// TestShort: each block is refused wherever it is cut off; the bytes behind the row are not its own.
func TestShort(t *testing.T) {
	for _, text := range texts() {
		b := blockOf(text)
		for size := range b {
			refused(t, b[:size], api.ErrForm)
		}
	}
}

// TestEachBit: a block with a bit turned is another sum, or, by its size, too long or cut off.
func TestEachBit(t *testing.T) {
	for _, text := range [][]byte{nil, []byte("a"), []byte("abc"), long(40), long(1000)} {
		b := blockOf(text)
		for bit := range 8 * len(b) {
			bad := slices.Clone(b)
			bad[bit/8] ^= 1 << (bit % 8)
			want := api.ErrSum
			if size := int(binary.LittleEndian.Uint16(bad)); size > 1000 || size > len(text) {
				want = api.ErrForm
			}
			refused(t, bad, want)
		}
	}
}

func TestJoin(t *testing.T) {
	for i, l := range lists() {
		if b, err := block.Join(l); err != api.OK || !bytes.Equal(b, blocksOf(l)) {
			t.Errorf("list %d: %x, %v", i, b, err)
		}
	}
}

func TestJoinRefuses(t *testing.T) {
	great, greater := make([]byte, 1001), make([]byte, 1<<16)
	for i, l := range [][][]byte{
		{great}, {greater}, {great, nil}, {nil, great}, {[]byte("abc"), great, []byte("d")}, {long(1000), long(1000), greater}, {great, greater},
	} {
		if b, err := block.Join(l); err != api.ErrArg || len(b) != 0 {
			t.Errorf("list %d: %d bytes, %v", i, len(b), err)
		}
	}
}

func TestAll(t *testing.T) {
	for i, want := range lists() {
		if l, at, err := block.All(blocksOf(want)); err != api.OK || at != 0 || !sameTexts(l, want) {
			t.Errorf("list %d: %x, %d, %v", i, l, at, err)
		}
		b, _ := block.Join(want)
		if l, at, err := block.All(b); err != api.OK || at != 0 || !sameTexts(l, want) {
			t.Errorf("list %d, joined: %x, %d, %v", i, l, at, err)
		}
	}
	for _, nothing := range [][]byte{nil, {}} {
		if l, at, err := block.All(nothing); err != api.OK || at != 0 || len(l) != 0 {
			t.Errorf("All of nothing: %x, %d, %v", l, at, err)
		}
	}
}

// wrongBlock is a block that is wrong, and the error that is told of it, with whatever behind it.
type wrongBlock struct {
	b   []byte
	err api.Errno
}

// wrongBlocks are wrong with whatever bytes behind them.
func wrongBlocks() []wrongBlock {
	return []wrongBlock{
		{[]byte("\x00\x00\x00\x00\x00\x00"), api.ErrSum},
		{[]byte("\x03\x00abcdefg"), api.ErrSum},
		{append([]byte("\xe8\x03"), make([]byte, 1004)...), api.ErrSum},
		{[]byte("\xe9\x03"), api.ErrForm},
		{told(1001, long(1001)), api.ErrForm},
		{[]byte("\xff\xff\xff\xff"), api.ErrForm},
	}
}

// TestAllRefuses: none, the place where the first block that is wrong begins, and its error, be it the first, in the middle, or the last.
func TestAllRefuses(t *testing.T) {
	for i, l := range lists() {
		for n := range len(l) + 1 {
			ahead, behind := blocksOf(l[:n]), blocksOf(l[n:])
			for j, wrong := range wrongBlocks() {
				allRefused(t, [][]byte{ahead, wrong.b, behind}, len(ahead), wrong.err)
				for _, second := range wrongBlocks() { // a second one is not told of
					allRefused(t, [][]byte{ahead, wrong.b, behind, second.b}, len(ahead), wrong.err)
				}
				if t.Failed() {
					t.Fatalf("list %d, place %d, wrong block %d", i, n, j)
				}
			}
		}
	}
}

func allRefused(t *testing.T, pieces [][]byte, at int, err api.Errno) {
	t.Helper()
	if l, gotAt, gotErr := block.All(slices.Concat(pieces...)); gotErr != err || gotAt != at || len(l) != 0 {
		t.Errorf("%d texts, %d, %v, want none, %d, %v", len(l), gotAt, gotErr, at, err)
	}
}

// TestAllCutOff: blocks that are cut off are read if they end with a block; else the last one is of a wrong form.
func TestAllCutOff(t *testing.T) {
	l := [][]byte{[]byte("abc"), nil, []byte("d"), long(300)}
	b := blocksOf(l)
	ends := map[int]int{0: 0} // how many blocks end there
	for n := range l {
		ends[len(blocksOf(l[:n+1]))] = n + 1
	}
	begin := 0
	for size := range len(b) + 1 {
		got, at, err := block.All(b[:size])
		if n, ok := ends[size]; ok {
			begin = size
			if err != api.OK || at != 0 || !sameTexts(got, l[:n]) {
				t.Errorf("%d bytes: %x, %d, %v", size, got, at, err)
			}
		} else if err != api.ErrForm || at != begin || len(got) != 0 {
			t.Errorf("%d bytes: %x, %d, %v, want none, %d, %v", size, got, at, err, begin, api.ErrForm)
		}
	}
}

// TestAllOfMany: a long row is read as far as it goes.
func TestAllOfMany(t *testing.T) {
	var l [][]byte
	for i := range 20000 {
		l = append(l, long(i%37))
	}
	b, err := block.Join(l)
	if err != api.OK || !bytes.Equal(b, blocksOf(l)) {
		t.Fatalf("%d texts: %d bytes, %v", len(l), len(b), err)
	}
	if got, at, err := block.All(b); err != api.OK || at != 0 || !sameTexts(got, l) {
		t.Errorf("%d texts: %d, %d, %v", len(l), len(got), at, err)
	}
	b[len(b)-1] ^= 0x80
	at := len(b) - len(blockOf(l[len(l)-1]))
	allRefused(t, [][]byte{b}, at, api.ErrSum)
}

// roomy tells a row with room behind it that is filled, so that who appends to the row itself is seen.
func roomy(text []byte) (row, whole []byte) {
	whole = append(slices.Clone(text), bytes.Repeat([]byte{0xee}, 2000)...)
	return whole[:len(text)], whole
}

// rows has rows of blocks, and others.
func rows() [][]byte {
	l := [][]byte{make([]byte, 1001), make([]byte, 5000), bytes.Repeat([]byte{0xff}, 1500), long(3000)}
	for _, text := range texts() {
		b := blockOf(text)
		l = append(l, text, b, b[:len(b)-1], append(slices.Clone(b), 0), append(slices.Clone(b), b...))
	}
	for _, wrong := range wrongBlocks() {
		l = append(l, wrong.b)
	}
	return l
}

// TestHandedInStays is R1: neither what was handed in, nor the room behind it, is written over.
func TestHandedInStays(t *testing.T) {
	for _, b := range rows() {
		row, whole := roomy(b)
		before := slices.Clone(whole)
		block.Encode(row)
		block.Decode(row)
		block.Join([][]byte{row, row})
		block.All(row)
		if !bytes.Equal(whole, before) {
			t.Errorf("%x was written over", b[:min(len(b), 40)])
		}
	}
	one, two := roomy([]byte("abc"))
	l := [][]byte{one, two[:10], nil, two[:1001]}
	before := slices.Clone(l)
	block.Join(l[:2])
	block.Join(l)
	for i := range l {
		if len(l[i]) != len(before[i]) || !bytes.Equal(l[i], before[i]) {
			t.Errorf("text %d of the list was changed", i)
		}
	}
}

// fill writes over a row, and over the room behind it.
func fill(b []byte, x byte) {
	b = b[:cap(b)]
	for i := range b {
		b[i] = x
	}
}

// TestNewRows is R1 of what is answered: it shares nothing with what was handed in, nor with another answer.
func TestNewRows(t *testing.T) {
	calls := map[string]func(b []byte) []byte{
		"Encode": func(b []byte) []byte { row, _ := block.Encode(b); return row },
		"Decode": func(b []byte) []byte { row, _, _ := block.Decode(b); return row },
		"Join":   func(b []byte) []byte { row, _ := block.Join([][]byte{b}); return row },
		"Join 2": func(b []byte) []byte { row, _ := block.Join([][]byte{b, b}); return row },
		"All":    func(b []byte) []byte { l, _, _ := block.All(b); return l[0] },
	}
	for name, call := range calls {
		for _, text := range texts() {
			b := blockOf(text)
			if len(b) > 1000 && name != "Decode" && name != "All" {
				continue // it has no block of its own
			}
			row, whole := roomy(b)
			first, second := call(row), call(row)
			want := slices.Clone(first)
			fill(second, 0x11)
			fill(whole, 0x22)
			if !bytes.Equal(first, want) {
				t.Errorf("%s of %d bytes: the answer shares bytes", name, len(text))
			}
			fill(first, 0x33)
			if !bytes.Equal(whole, bytes.Repeat([]byte{0x22}, len(whole))) {
				t.Errorf("%s of %d bytes: what was handed in shares bytes with the answer", name, len(text))
			}
		}
	}
}

// TestTextsShareNothing is R1 within one answer of All: each text, with the room behind it, is its own, and so is the list.
func TestTextsShareNothing(t *testing.T) {
	want := [][]byte{[]byte("abc"), nil, long(100), []byte("d"), long(1000)}
	b := blocksOf(want)
	other, _, _ := block.All(b)
	for i := range want {
		l, _, _ := block.All(b)
		fill(l[i], 0x11)
		for j := range want {
			if j != i && !bytes.Equal(l[j], want[j]) {
				t.Errorf("text %d shares bytes with text %d", j, i)
			}
		}
		clear(l[:cap(l)])
		if !sameTexts(other, want) {
			t.Errorf("text %d: two answers share bytes", i)
		}
	}
	if !bytes.Equal(b, blocksOf(want)) {
		t.Error("the answers share bytes with what was handed in")
	}
}

// TestNoPanic is R2, and R4: whatever is handed in, the calls end, twice with the same answers.
func TestNoPanic(t *testing.T) {
	for i, b := range rows() {
		told, errTold := block.Encode(b)
		toldAgain, errToldAgain := block.Encode(b)
		if !bytes.Equal(told, toldAgain) || errTold != errToldAgain {
			t.Errorf("row %d: Encode answers %v, then %v", i, errTold, errToldAgain)
		}
		joined, errJoined := block.Join([][]byte{b, nil, b})
		joinedAgain, errJoinedAgain := block.Join([][]byte{b, nil, b})
		if !bytes.Equal(joined, joinedAgain) || errJoined != errJoinedAgain {
			t.Errorf("row %d: Join answers %v, then %v", i, errJoined, errJoinedAgain)
		}
		text, size, err := block.Decode(b)
		again, sizeAgain, errAgain := block.Decode(b)
		if !bytes.Equal(text, again) || size != sizeAgain || err != errAgain {
			t.Errorf("row %d: Decode answers %v, then %v", i, err, errAgain)
		}
		l, at, err := block.All(b)
		lAgain, atAgain, errAgain := block.All(b)
		if !sameTexts(l, lAgain) || at != atAgain || err != errAgain {
			t.Errorf("row %d: All answers %d, %v, then %d, %v", i, at, err, atAgain, errAgain)
		}
	}
}
