package record_test

import (
	"bytes"
	"math"
	"slices"
	"strings"
	"testing"

	"cartage/api"
	"cartage/disk"
	"cartage/record"
)

// dice tells numbers; the same ones each time the test is run.
type dice uint64

func (d *dice) number() uint64 {
	*d = *d*6364136223846793005 + 1442695040888963407
	return uint64(*d >> 33)
}

func (d *dice) roll(n int) int { return int(d.number() % uint64(n)) }

// recs tells n records, of all 64 bits.
func (d *dice) recs(n int) []api.Rec {
	l := make([]api.Rec, n)
	for i := range l {
		l[i] = api.Rec{Key: d.number()<<32 ^ d.number()<<3, Val: d.number()<<33 ^ d.number()}
	}
	return l
}

// some tells n records; those of fewer are the first ones of those of more.
func some(n int) []api.Rec {
	d := dice(1)
	return d.recs(n)
}

// must asks for OK.
func must(t *testing.T, errs ...api.Errno) {
	t.Helper()
	for i, err := range errs {
		if err != api.OK {
			t.Fatalf("call %d: %v", i, err)
		}
	}
}

// all has every unsynced sector stay at a crash.
func all() []bool { return slices.Repeat([]bool{true}, 10000) }

// up restarts a disk, armed no more.
func up(d *disk.Disk) {
	d.Arm(0, nil)
	d.Restart()
}

// withFile tells a disk with a file of these bytes, synced.
func withFile(t *testing.T, name string, b []byte) *disk.Disk {
	t.Helper()
	d := disk.New(10000)
	must(t, d.Create(name), d.Append(name, b), d.Sync(name))
	return d
}

// onDisk asks for the bytes that a file has.
func onDisk(t *testing.T, d *disk.Disk, name string, want []byte) {
	t.Helper()
	n, err := d.Size(name)
	must(t, err)
	b, err := d.ReadAt(name, 0, n)
	must(t, err)
	if !bytes.Equal(b, want) {
		t.Fatalf("%s has %d bytes, %.60x.., want %d, %.60x..", name, len(b), b, len(want), want)
	}
}

// files asks for the names of all files.
func files(t *testing.T, d *disk.Disk, want ...string) {
	t.Helper()
	l, err := d.List()
	if err != api.OK || !slices.Equal(l, want) {
		t.Fatalf("files %q, %v, want %q", l, err, want)
	}
}

// reads asks Read for records, or for an error.
func reads(t *testing.T, d *disk.Disk, name string, want []api.Rec, wantErr api.Errno) {
	t.Helper()
	if l, err := record.Read(d, name); err != wantErr || !slices.Equal(l, want) {
		t.Fatalf("Read(%q) = %d records, %v, want %d, %v", name, len(l), err, len(want), wantErr)
	}
}

// takes asks how many operations of the disk something takes.
func takes(t *testing.T, d *disk.Disk, want int, what func()) {
	t.Helper()
	before := d.Ops()
	what()
	if n := d.Ops() - before; n != want {
		t.Fatalf("%d operations, want %d", n, want)
	}
}

// counts has numbers of records: none, one, about one block, two and more.
func counts() []int { return []int{0, 1, 2, 25, 49, 50, 51, 99, 100, 101, 149, 150, 151, 1000} }

// blocks tells how many blocks so many records have.
func blocks(n int) int { return (n + 49) / 50 }

func TestMany(t *testing.T) {
	if record.Many != 50 {
		t.Errorf("Many is %d", record.Many)
	}
}

// TestExample is the chapter's.
func TestExample(t *testing.T) {
	d := disk.New(100)
	must(t, record.Write(d, "none", nil), record.Write(d, "one", some(1)))
	for name, want := range map[string]int{"none": 0, "one": 22} {
		if n, err := d.Size(name); n != want || err != api.OK {
			t.Errorf("%s has %d bytes, %v, want %d", name, n, err, want)
		}
	}
}

// TestBytes: a file is told byte by byte.
func TestBytes(t *testing.T) {
	d := disk.New(100)
	must(t, record.Write(d, "f", []api.Rec{{Key: 0x0102030405060708, Val: 0x090a0b0c0d0e0f10}, {Key: 300, Val: math.MaxUint64}}))
	onDisk(t, d, "f", blockOf([]byte("\x08\x07\x06\x05\x04\x03\x02\x01\x10\x0f\x0e\x0d\x0c\x0b\x0a\x09"+
		"\x2c\x01\x00\x00\x00\x00\x00\x00\xff\xff\xff\xff\xff\xff\xff\xff")))
}

// TestWrite: of each number of records the bytes are those of the chapter, and last; what was written is read.
func TestWrite(t *testing.T) {
	for _, n := range counts() {
		l := some(n)
		d := disk.New(10000)
		// The file is made, each block is appended by itself, and it is synced.
		takes(t, d, blocks(n)+2, func() { must(t, record.Write(d, "f", l)) })
		onDisk(t, d, "f", fileOf(l))
		files(t, d, "f")
		reads(t, d, "f", l, api.OK)
		d.Crash(nil)
		d.Restart()
		onDisk(t, d, "f", fileOf(l))
		reads(t, d, "f", l, api.OK)
	}
}

// TestOrder: records stay in the order in which they were told, alike or not, be they sorted or not.
func TestOrder(t *testing.T) {
	d := disk.New(1000)
	l := []api.Rec{{Key: 5, Val: 1}, {Key: 1, Val: 9}, {Key: 5, Val: 1}, {}, {Key: math.MaxUint64, Val: math.MaxUint64}, {Key: 5}, {Val: 5}}
	l = slices.Repeat(l, 20)
	must(t, record.Write(d, "f", l))
	reads(t, d, "f", l, api.OK)
}

// TestNames: those that may be, and those that may not.
func TestNames(t *testing.T) {
	for _, name := range []string{"f", " ", "\x00", "/", "..", "\xff\xfe", strings.Repeat("n", 24)} {
		d := disk.New(100)
		must(t, record.Write(d, name, some(3)))
		files(t, d, name)
		reads(t, d, name, some(3), api.OK)
	}
	for _, name := range []string{"", strings.Repeat("n", 25), strings.Repeat("n", 1000)} {
		for _, n := range counts() {
			d := disk.New(100)
			takes(t, d, 1, func() {
				if err := record.Write(d, name, some(n)); err != api.ErrArg {
					t.Fatalf("Write(%q): %v", name, err)
				}
			})
			files(t, d)
			reads(t, d, name, nil, api.ErrNone)
		}
	}
}

// TestFileThatThereIs: it stays as it was, whatever is to be written.
func TestFileThatThereIs(t *testing.T) {
	for _, b := range [][]byte{nil, []byte("x"), fileOf(some(60))} {
		for _, n := range counts() {
			d := withFile(t, "f", b)
			takes(t, d, 1, func() {
				if err := record.Write(d, "f", some(n)); err != api.ErrIs {
					t.Fatalf("Write: %v", err)
				}
			})
			onDisk(t, d, "f", b)
		}
	}
}

// TestNoRoom: blocks are there as far as there is room, by sectors of all files.
func TestNoRoom(t *testing.T) {
	l := some(120) // 806, 806 and 326 bytes
	for room := -1; room <= 130; room++ {
		d := disk.New(room)
		err := record.Write(d, "f", l)
		done := 0
		for _, end := range []int{806, 1612, 1938} {
			if (end+15)/16 <= room {
				done = end
			}
		}
		onDisk(t, d, "f", fileOf(l)[:done])
		if want := done == 1938; (err == api.OK) != want || !want && err != api.ErrSpace {
			t.Fatalf("room %d: %v, and %d bytes", room, err, done)
		}
		if err != api.OK { // what is not synced goes
			reads(t, d, "f", l[:done/806*50], api.OK)
			d.Crash(nil)
			d.Restart()
			onDisk(t, d, "f", nil)
		}
	}
	d := withFile(t, "other", make([]byte, 9990*16))
	must(t, record.Write(d, "fits", some(9))) // 150 bytes
	if err := record.Write(d, "f", l); err != api.ErrSpace {
		t.Errorf("Write: %v", err)
	}
	onDisk(t, d, "f", nil)
	must(t, record.Write(d, "none", nil))
}

// TestWriteDown: a crash ahead of each operation leaves what was done ahead of it.
func TestWriteDown(t *testing.T) {
	for _, n := range []int{0, 1, 50, 51, 150, 160} {
		l := some(n)
		for op := 1; op <= blocks(n)+2; op++ {
			for _, keep := range [][]bool{nil, all()} {
				d := disk.New(1000)
				d.Arm(op, keep)
				takes(t, d, op, func() {
					if err := record.Write(d, "f", l); err != api.ErrDown {
						t.Fatalf("%d records, crash %d: %v", n, op, err)
					}
				})
				up(d)
				if op == 1 {
					files(t, d)
					continue
				}
				files(t, d, "f")
				if keep == nil {
					onDisk(t, d, "f", nil)
					continue
				}
				onDisk(t, d, "f", slices.Concat(blocksOf(l)[:op-2]...))
				reads(t, d, "f", l[:min(n, 50*(op-2))], api.OK)
			}
		}
		d := disk.New(1000)
		d.Arm(blocks(n)+3, nil) // behind the last one
		must(t, record.Write(d, "f", l))
	}
	d := disk.New(1000)
	d.Crash(nil)
	for range 2 { // down ahead of all: an operation that is not made either
		if err := record.Write(d, "f", nil); err != api.ErrDown {
			t.Fatalf("Write: %v", err)
		}
	}
	d.Restart()
	files(t, d)
}

// TestReadErrors: the error of the disk, on any operation, comes ahead of what is wrong behind it; nothing is told beside it.
func TestReadErrors(t *testing.T) {
	for _, n := range []int{0, 1, 50, 51, 150} {
		d := withFile(t, "f", fileOf(some(n)))
		reads(t, d, "g", nil, api.ErrNone)
		reads(t, d, "", nil, api.ErrNone)
		reads(t, d, strings.Repeat("f", 25), nil, api.ErrNone)
		before := d.Ops()
		reads(t, d, "f", some(n), api.OK)
		ops := d.Ops() - before
		for op := 1; op <= ops; op++ {
			d.Arm(op, nil)
			reads(t, d, "f", nil, api.ErrDown)
			reads(t, d, "f", nil, api.ErrDown)
			up(d)
			reads(t, d, "f", some(n), api.OK)
		}
		onDisk(t, d, "f", fileOf(some(n)))
	}
	d := withFile(t, "f", []byte("no records"))
	for op := 1; op <= 2; op++ {
		d.Arm(op, nil)
		reads(t, d, "f", nil, api.ErrDown)
		up(d)
	}
	reads(t, d, "f", nil, api.ErrForm)
}

// wrong has files, what is wrong with each, and how many of the records of some(151) are told ahead of the error.
func wrong() []struct {
	what string
	b    []byte
	told int
	err  api.Errno
} {
	l := blocksOf(some(151))
	full, second, last := l[0], l[1], l[3]
	sum := func(b []byte, at int) []byte {
		b = slices.Clone(b)
		b[at] ^= 1
		return b
	}
	text := func(n int) []byte { return blockOf(textOf(some(70))[:n]) }
	join := func(l ...[]byte) []byte { return slices.Concat(l...) }
	return []struct {
		what string
		b    []byte
		told int
		err  api.Errno
	}{
		{"one byte", []byte{0}, 0, api.ErrForm},
		{"bytes of no block", []byte("no records"), 0, api.ErrForm},
		{"a head alone", full[:2], 0, api.ErrForm},
		{"cut short", full[:805], 0, api.ErrForm},
		{"cut short behind a block", join(full, second[:805]), 50, api.ErrForm},
		{"a byte behind a block", join(full, []byte{22}), 50, api.ErrForm},
		{"a byte behind the last block", join(text(48), []byte{22}), 3, api.ErrForm},
		{"another sum", sum(full, 805), 0, api.ErrSum},
		{"another record", sum(full, 2), 0, api.ErrSum},
		{"another record of a later block", join(full, second, sum(last, 2)), 100, api.ErrSum},
		{"no text", text(0), 0, api.ErrForm},
		{"no text, and another sum", sum(text(0), 5), 0, api.ErrSum},
		{"no text behind a block", join(full, text(0)), 50, api.ErrForm},
		{"not a multiple of 16", text(15), 0, api.ErrForm},
		{"not a multiple of 16", text(17), 0, api.ErrForm},
		{"not a multiple of 16", text(799), 0, api.ErrForm},
		{"not a multiple of 16", text(801), 0, api.ErrForm},
		{"not a multiple of 16, and another sum", sum(text(799), 9), 0, api.ErrSum},
		{"51 records", text(816), 0, api.ErrForm},
		{"51 records, and another sum", sum(text(816), 821), 0, api.ErrSum},
		{"51 records behind a block", join(full, text(816)), 50, api.ErrForm},
		{"62 records, and another sum, behind a block", join(full, sum(text(992), 900)), 50, api.ErrSum},
		{"the longest text", text(1000), 0, api.ErrForm},
		{"the longest text, and another sum", sum(text(1000), 1005), 0, api.ErrSum},
		{"the longest text, cut short", text(1000)[:1005], 0, api.ErrForm},
		{"too long a text", text(1001), 0, api.ErrForm},
		{"too long a text, and another sum", sum(text(1008), 1013), 0, api.ErrForm},
		{"a block behind one of 49", join(text(784), text(16)), 49, api.ErrForm},
		{"a full block behind one of 1", join(text(16), full), 1, api.ErrForm},
		{"a block with another sum behind one of 1", join(text(16), sum(full, 400)), 1, api.ErrSum},
		{"a block that is cut short behind one of 1", join(text(16), full[:800]), 1, api.ErrForm},
		{"a block without text behind one of 1", join(text(16), text(0)), 1, api.ErrForm},
		{"two blocks behind one of 1, the last with another sum", join(text(16), full, sum(full, 0)), 1, api.ErrForm},
		{"a full block, one of 1, and one more", join(full, blockOf(textOf(some(51)[50:])), full), 51, api.ErrForm},
		{"no text ahead of another sum", join(full, text(0), sum(full, 7)), 50, api.ErrForm},
		{"another sum ahead of no text", join(full, sum(second, 7), text(0)), 50, api.ErrSum},
		{"a full block ahead of one of 51, and one with another sum", join(full, text(816), sum(full, 7)), 50, api.ErrForm},
	}
}

// TestWrongBlocks: block by block, whichever comes first; and just so it comes to who reads one by one.
func TestWrongBlocks(t *testing.T) {
	for _, v := range wrong() {
		d := withFile(t, "f", v.b)
		if l, err := record.Read(d, "f"); err != v.err || len(l) != 0 {
			t.Errorf("%s: %d records, %v, want %v", v.what, len(l), err, v.err)
		}
		nexts(t, d, "f", some(151)[:v.told], v.err)
		onDisk(t, d, "f", v.b)
	}
}

// TestReadAsItIs: Read asks for what the file has now, synced or not, and leaves it so.
func TestReadAsItIs(t *testing.T) {
	l := some(100)
	d := disk.New(1000)
	must(t, d.Create("f"))
	reads(t, d, "f", nil, api.OK)
	must(t, d.Append("f", fileOf(l[:50])))
	reads(t, d, "f", l[:50], api.OK)
	must(t, d.Sync("f"), d.Append("f", blockOf(textOf(l[50:]))))
	reads(t, d, "f", l, api.OK)
	d.Crash(nil)
	reads(t, d, "f", nil, api.ErrDown)
	d.Restart()
	reads(t, d, "f", l[:50], api.OK)
}
