package record_test

import (
	"encoding/binary"
	"hash/crc32"
	"slices"
	"testing"

	"cartage/api"
	"cartage/disk"
	"cartage/record"
)

// blockOf tells the block of a text, be it one that may be or not.
func blockOf(text []byte) []byte {
	b := binary.LittleEndian.AppendUint16(nil, uint16(len(text)))
	b = append(b, text...)
	return binary.LittleEndian.AppendUint32(b, crc32.ChecksumIEEE(b))
}

// textOf tells the text of records.
func textOf(l []api.Rec) []byte {
	var b []byte
	for _, r := range l {
		b = binary.LittleEndian.AppendUint64(b, r.Key)
		b = binary.LittleEndian.AppendUint64(b, r.Val)
	}
	return b
}

// blocksOf tells the blocks of a file of records.
func blocksOf(l []api.Rec) [][]byte {
	var all [][]byte
	for i := 0; i < len(l); i += 50 {
		all = append(all, blockOf(textOf(l[i:min(i+50, len(l))])))
	}
	return all
}

// fileOf tells the bytes of a file of records.
func fileOf(l []api.Rec) []byte { return slices.Concat(blocksOf(l)...) }

// parse is what the chapter says of reading, told in another way: from the end of the bytes, the records of what stands ahead
// of the first wrong block, and its error.
func parse(b []byte) ([]api.Rec, api.Errno) { return parseBehind(b, 50) }

// parseBehind goes on behind a block of that many records.
func parseBehind(b []byte, before int) ([]api.Rec, api.Errno) {
	if len(b) == 0 {
		return nil, api.OK
	}
	if len(b) < 6 {
		return nil, api.ErrForm
	}
	n := int(b[0]) + 256*int(b[1])
	if n > 1000 || n > len(b)-6 {
		return nil, api.ErrForm
	}
	if binary.LittleEndian.Uint32(b[2+n:]) != crc32.ChecksumIEEE(b[:2+n]) {
		return nil, api.ErrSum
	}
	if n == 0 || n > 800 || n%16 != 0 || before != 50 {
		return nil, api.ErrForm
	}
	var l []api.Rec
	for at := 2; at < 2+n; at += 16 {
		l = append(l, api.Rec{Key: binary.LittleEndian.Uint64(b[at:]), Val: binary.LittleEndian.Uint64(b[at+8:])})
	}
	rest, err := parseBehind(b[n+6:], n/16)
	return append(l, rest...), err
}

// readsAs asks Read, and a Reader, for what parse tells of a file's bytes.
func readsAs(t *testing.T, d *disk.Disk, name string, b []byte) {
	t.Helper()
	want, wantErr := parse(b)
	nexts(t, d, name, want, wantErr)
	if wantErr != api.OK {
		want = nil
	}
	reads(t, d, name, want, wantErr)
}

// holds asks what a file of these bytes is read as.
func holds(t *testing.T, b []byte) {
	t.Helper()
	readsAs(t, withFile(t, "f", b), "f", b)
}

// TestEachBit: one bit is another one, wherever it is in a file of three blocks, and each is read as the chapter says.
func TestEachBit(t *testing.T) {
	for _, n := range []int{1, 3, 101} {
		b := fileOf(some(n))
		d := withFile(t, "f", b)
		for i := range b {
			for bit := range 8 {
				b[i] ^= 1 << bit
				must(t, d.WriteAt("f", i, b[i:i+1]))
				if n < 101 || bit == i%8 || i%806 < 2 {
					readsAs(t, d, "f", b)
				}
				b[i] ^= 1 << bit
			}
			must(t, d.WriteAt("f", i, b[i:i+1]))
		}
	}
}

// TestCutShort: a file that has only its first bytes, however many.
func TestCutShort(t *testing.T) {
	b := fileOf(some(104))
	for n := range len(b) + 1 {
		holds(t, b[:n])
		_, err := parse(b[:n])
		// No cut but one between two blocks, or at the end, leaves a file of records.
		if want := n%806 == 0 || n == len(b); (err == api.OK) != want {
			t.Fatalf("%d bytes: %v", n, err)
		}
	}
}

// pieces tells blocks of texts of many lengths, each also with another sum, and bytes that are no block.
func pieces() [][]byte {
	var all [][]byte
	for _, n := range []int{0, 1, 15, 16, 17, 32, 160, 784, 792, 799, 800, 801, 808, 816, 992, 1000, 1001, 1008} {
		b := blockOf(textOf(some(70))[:n])
		other := slices.Clone(b)
		other[len(other)-1] ^= 0x80
		all = append(all, b, other)
	}
	return append(all, []byte{0}, []byte{16, 0}, []byte{0xff, 0xff, 0, 0, 0, 0, 0, 0}, blockOf(textOf(some(50)))[:805])
}

// TestPieces: all rows of up to three of them.
func TestPieces(t *testing.T) {
	all := append(pieces(), nil)
	for _, a := range all {
		for _, b := range all {
			for _, c := range all {
				if len(a) == 0 && len(b) > 0 || len(b) == 0 && len(c) > 0 {
					continue // these are told by others
				}
				holds(t, slices.Concat(a, b, c))
			}
		}
	}
}

// TestAgainstModel: files of all kinds behind each other on one disk, of records whose number and bytes are rolled.
func TestAgainstModel(t *testing.T) {
	r := dice(9)
	for range 300 {
		l := r.recs(r.roll(260))
		d := disk.New(10000)
		must(t, record.Write(d, "f", l))
		onDisk(t, d, "f", fileOf(l))
		writes(t, d, "g", l)
		onDisk(t, d, "g", fileOf(l))
		readsAs(t, d, "f", fileOf(l))
		reads(t, d, "g", l, api.OK)
		b := append(fileOf(l), fileOf(r.recs(r.roll(3)))...)
		for range r.roll(3) {
			if len(b) > 0 {
				b[r.roll(len(b))] ^= byte(1 + r.roll(255))
			}
		}
		b = b[:len(b)-r.roll(2)*min(len(b), r.roll(30))]
		holds(t, b)
	}
}
