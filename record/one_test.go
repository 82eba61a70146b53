package record_test

import (
	"slices"
	"strings"
	"testing"

	"cartage/api"
	"cartage/disk"
	"cartage/record"
)

// newWriter asks for a writer.
func newWriter(t *testing.T, d *disk.Disk, name string) *record.Writer {
	t.Helper()
	w, err := record.NewWriter(d, name)
	if err != api.OK || w == nil {
		t.Fatalf("NewWriter(%q): %v", name, err)
	}
	return w
}

// newReader asks for a reader.
func newReader(t *testing.T, d *disk.Disk, name string) *record.Reader {
	t.Helper()
	r, err := record.NewReader(d, name)
	if err != api.OK || r == nil {
		t.Fatalf("NewReader(%q): %v", name, err)
	}
	return r
}

// writes writes a file one by one.
func writes(t *testing.T, d *disk.Disk, name string, l []api.Rec) {
	t.Helper()
	w := newWriter(t, d, name)
	for i, r := range l {
		if err := w.Put(r); err != api.OK {
			t.Fatalf("Put %d: %v", i, err)
		}
	}
	must(t, w.Close())
}

// next asks a reader for these records, and no more than them.
func next(t *testing.T, r *record.Reader, want ...api.Rec) {
	t.Helper()
	for i, x := range want {
		if got, is, err := r.Next(); got != x || !is || err != api.OK {
			t.Fatalf("Next %d of %d: %v, %v, %v, want %v", i, len(want), got, is, err, x)
		}
	}
}

// ended asks a reader for nothing more, for good, and that the disk is not asked for it.
func ended(t *testing.T, d *disk.Disk, r *record.Reader, want api.Errno) {
	t.Helper()
	before := d.Ops()
	for i := range 3 {
		if got, is, err := r.Next(); got != (api.Rec{}) || is || err != want {
			t.Fatalf("Next behind the last one: %v, %v, %v, want none, %v", got, is, err, want)
		}
		if i == 0 {
			before = d.Ops() // an error comes by an operation, but once
		}
	}
	if d.Ops() != before {
		t.Fatalf("the disk is asked again")
	}
}

// nexts asks a new reader for records, and then for that error, or OK.
func nexts(t *testing.T, d *disk.Disk, name string, want []api.Rec, wantErr api.Errno) {
	t.Helper()
	r := newReader(t, d, name)
	next(t, r, want...)
	ended(t, d, r, wantErr)
}

// closed asks a writer for ErrState, for good, and that the disk is not asked for it.
func closed(t *testing.T, d *disk.Disk, w *record.Writer) {
	t.Helper()
	takes(t, d, 0, func() {
		for range 60 {
			if err := w.Put(api.Rec{Key: 1}); err != api.ErrState {
				t.Fatalf("Put: %v", err)
			}
			if err := w.Close(); err != api.ErrState {
				t.Fatalf("Close: %v", err)
			}
		}
	})
}

// TestWriter: one by one leaves what Write leaves, by the same operations.
func TestWriter(t *testing.T) {
	for _, n := range counts() {
		l := some(n)
		d, other := disk.New(10000), disk.New(10000)
		takes(t, d, blocks(n)+2, func() { writes(t, d, "f", l) })
		must(t, record.Write(other, "f", l))
		b, err := other.ReadAt("f", 0, len(fileOf(l)))
		must(t, err)
		onDisk(t, d, "f", b)
		d.Crash(nil)
		d.Restart()
		onDisk(t, d, "f", b)
		reads(t, d, "f", l, api.OK)
	}
}

// TestNewWriter: the file is there at once, without bytes; it is made, or the error of that is told, and no writer.
func TestNewWriter(t *testing.T) {
	d := disk.New(0)
	takes(t, d, 1, func() { newWriter(t, d, "f") })
	onDisk(t, d, "f", nil)
	for _, v := range []struct {
		name string
		want api.Errno
	}{
		{"f", api.ErrIs}, {"", api.ErrArg}, {strings.Repeat("f", 25), api.ErrArg},
	} {
		takes(t, d, 1, func() {
			w, err := record.NewWriter(d, v.name)
			if w != nil || err != v.want {
				t.Errorf("NewWriter(%q): %v, %v, want %v", v.name, w, err, v.want)
			}
		})
		files(t, d, "f")
	}
	d.Arm(1, nil)
	for range 2 {
		if w, err := record.NewWriter(d, "g"); w != nil || err != api.ErrDown {
			t.Errorf("NewWriter: %v, %v", w, err)
		}
	}
	up(d)
	files(t, d, "f")
}

// TestWriterHoldsOneBlock: what is put is on the disk but for one block, at most, at each time.
func TestWriterHoldsOneBlock(t *testing.T) {
	l := some(230)
	d := disk.New(1000)
	w := newWriter(t, d, "f")
	for i, r := range l {
		must(t, w.Put(r))
		n, err := d.Size("f")
		must(t, err)
		if n%806 != 0 || i+1-n/806*50 > 50 {
			t.Fatalf("%d records were put, and %d bytes are on the disk", i+1, n)
		}
		onDisk(t, d, "f", fileOf(l[:n/806*50]))
	}
	must(t, w.Close())
	onDisk(t, d, "f", fileOf(l))
}

// TestNotClosed: without Close the file does not last.
func TestNotClosed(t *testing.T) {
	d := disk.New(1000)
	w := newWriter(t, d, "f")
	for _, r := range some(60) {
		must(t, w.Put(r))
	}
	d.Crash(nil)
	d.Restart()
	onDisk(t, d, "f", nil)
}

// TestClosed: behind Close nothing is put any more.
func TestClosed(t *testing.T) {
	for _, n := range counts() {
		d := disk.New(10000)
		w := newWriter(t, d, "f")
		for _, r := range some(n) {
			must(t, w.Put(r))
		}
		must(t, w.Close())
		closed(t, d, w)
		onDisk(t, d, "f", fileOf(some(n)))
	}
	closed(t, disk.New(0), &record.Writer{})
}

// put writes a file one by one up to the first error.
func put(w *record.Writer, l []api.Rec) api.Errno {
	for _, r := range l {
		if err := w.Put(r); err != api.OK {
			return err
		}
	}
	return w.Close()
}

// TestWriterDown: behind an error, on any operation, nothing is put any more, also when the disk is up again.
func TestWriterDown(t *testing.T) {
	for _, n := range []int{0, 1, 49, 50, 51, 130} {
		l := some(n)
		for op := 1; op <= blocks(n)+1; op++ {
			d := disk.New(1000)
			w := newWriter(t, d, "f")
			d.Arm(op, all())
			if err := put(w, l); err != api.ErrDown {
				t.Fatalf("%d records, crash %d: %v", n, op, err)
			}
			closed(t, d, w)
			up(d)
			closed(t, d, w)
			onDisk(t, d, "f", slices.Concat(blocksOf(l)[:op-1]...))
		}
	}
}

// TestWriterNoRoom: likewise of room that there is not, also when there is some again.
func TestWriterNoRoom(t *testing.T) {
	l := some(120)
	for room := range 125 {
		d := disk.New(room)
		must(t, d.Create("other"), d.Append("other", make([]byte, min(room, 1))))
		w := newWriter(t, d, "f")
		err := put(w, l)
		if fits := room-1 >= 122; fits != (err == api.OK) || !fits && err != api.ErrSpace {
			t.Fatalf("room %d: %v", room, err)
		}
		n := min(max(room-1, 0)/50, 2)
		if room-1 == 50 || room-1 == 100 { // 51 sectors, and 101
			n--
		}
		want := l[:n*50]
		if err == api.OK {
			want = l
		}
		onDisk(t, d, "f", fileOf(want))
		must(t, d.Remove("other"))
		closed(t, d, w)
		onDisk(t, d, "f", fileOf(want))
	}
}

// TestWriterOfWhatIsAway: the file went, or has another name.
func TestWriterOfWhatIsAway(t *testing.T) {
	for _, n := range []int{0, 3, 50, 77} {
		d := disk.New(1000)
		w, v := newWriter(t, d, "f"), newWriter(t, d, "g")
		must(t, d.Remove("f"), d.Rename("g", "h"))
		for _, x := range []*record.Writer{w, v} {
			if err := put(x, some(n)); err != api.ErrNone {
				t.Fatalf("%d records: %v", n, err)
			}
			closed(t, d, x)
		}
		files(t, d, "h")
		onDisk(t, d, "h", nil)
	}
}

// TestReader: each record, then none, for good; the size is asked once, and each block once, when it is come to.
func TestReader(t *testing.T) {
	for _, n := range counts() {
		l := some(n)
		d := withFile(t, "f", fileOf(l))
		var r *record.Reader
		takes(t, d, 1, func() { r = newReader(t, d, "f") })
		for i := range l {
			ops := 0
			if i%50 == 0 {
				ops = 1
			}
			takes(t, d, ops, func() { next(t, r, l[i]) })
		}
		takes(t, d, 0, func() { ended(t, d, r, api.OK) })
		onDisk(t, d, "f", fileOf(l))
	}
}

// TestWrongEnd: a file that ends within a block is not asked for more than it has.
func TestWrongEnd(t *testing.T) {
	b := fileOf(some(90))
	for _, n := range []int{1, 2, 805, 807, 1000, len(b) - 1} {
		d := withFile(t, "f", b[:n])
		r := newReader(t, d, "f")
		next(t, r, some(n/806*50)...)
		takes(t, d, 1, func() { ended(t, d, r, api.ErrForm) })
	}
}

// TestNewReader: the error of Size, and no reader; what is in the file is not asked yet.
func TestNewReader(t *testing.T) {
	d := withFile(t, "f", []byte("no records"))
	for _, name := range []string{"", "g", strings.Repeat("f", 25)} {
		if r, err := record.NewReader(d, name); r != nil || err != api.ErrNone {
			t.Errorf("NewReader(%q): %v, %v", name, r, err)
		}
	}
	r := newReader(t, d, "f")
	ended(t, d, r, api.ErrForm)
	d.Arm(1, nil)
	for range 2 {
		if r, err := record.NewReader(d, "f"); r != nil || err != api.ErrDown {
			t.Errorf("NewReader: %v, %v", r, err)
		}
	}
}

// TestReaderAsTheyWere: bytes that are appended behind NewReader are not read, be they blocks or not, whatever stood ahead.
func TestReaderAsTheyWere(t *testing.T) {
	for _, n := range []int{0, 1, 49, 50, 51, 100, 120} {
		for _, more := range [][]byte{fileOf(some(70)), []byte("x"), blockOf(nil)} {
			l := some(n)
			d := withFile(t, "f", fileOf(l))
			r, late := newReader(t, d, "f"), newReader(t, d, "f")
			next(t, late, l[:n/2]...)
			must(t, d.Append("f", more))
			next(t, r, l...)
			ended(t, d, r, api.OK)
			next(t, late, l[n/2:]...)
			ended(t, d, late, api.OK)
		}
	}
	// A file that is cut short then is one that is made whole behind.
	b := fileOf(some(90))
	d := withFile(t, "f", b[:len(b)-1])
	r := newReader(t, d, "f")
	must(t, d.Append("f", b[len(b)-1:]))
	next(t, r, some(50)...)
	ended(t, d, r, api.ErrForm)
	nexts(t, d, "f", some(90), api.OK)
}

// TestReaderHoldsOneBlock: what becomes of a block is seen when it is come to, as no other one is held; what is held is told.
func TestReaderHoldsOneBlock(t *testing.T) {
	l := some(150)
	other := slices.Clone(l)
	for i := range other {
		other[i].Val++
	}
	d := withFile(t, "f", fileOf(l))
	r := newReader(t, d, "f")
	next(t, r, l[:49]...)
	must(t, d.WriteAt("f", 0, fileOf(other)))
	next(t, r, l[49])
	next(t, r, other[50:70]...)
	must(t, d.WriteAt("f", 0, make([]byte, 2000)))
	next(t, r, other[70:100]...)
	ended(t, d, r, api.ErrSum) // no bytes, and a sum of 0
}

// TestErrorStays: an error is for good, also when the block is right again, or the disk is up.
func TestErrorStays(t *testing.T) {
	l := some(120)
	b := fileOf(l)
	for _, at := range []int{0, 1, 2, 400, 805, 806, 1000, 1611, 1612, len(b) - 1} {
		d := withFile(t, "f", b)
		must(t, d.WriteAt("f", at, []byte{b[at] ^ 4}))
		r := newReader(t, d, "f")
		next(t, r, l[:at/806*50]...)
		_, is, err := r.Next()
		if is || err == api.OK {
			t.Fatalf("byte %d: %v, %v", at, is, err)
		}
		must(t, d.WriteAt("f", at, b[at:at+1]))
		ended(t, d, r, err)
		reads(t, d, "f", l, api.OK)
	}
}

// TestReaderDown: the disk goes down ahead of each block; what is held of the one ahead is told, then the error, for good.
func TestReaderDown(t *testing.T) {
	l := some(120)
	for op := 1; op <= 3; op++ {
		d := withFile(t, "f", fileOf(l))
		r := newReader(t, d, "f")
		d.Arm(op, nil)
		next(t, r, l[:50*(op-1)]...)
		ended(t, d, r, api.ErrDown)
		up(d)
		ended(t, d, r, api.ErrDown)
		nexts(t, d, "f", l, api.OK)
	}
	// Behind the last block nothing is asked of the disk.
	d := withFile(t, "f", fileOf(l))
	r := newReader(t, d, "f")
	next(t, r, l[:119]...)
	d.Crash(nil)
	next(t, r, l[119])
	ended(t, d, r, api.OK)
}

// TestReaderOfWhatIsAway: the file went, or has another name, or fewer bytes than it had.
func TestReaderOfWhatIsAway(t *testing.T) {
	l := some(120)
	change := map[string]struct {
		do   func(d *disk.Disk) api.Errno
		told int
		want api.Errno
	}{
		"it went":      {func(d *disk.Disk) api.Errno { return d.Remove("f") }, 50, api.ErrNone},
		"another name": {func(d *disk.Disk) api.Errno { return d.Rename("f", "g") }, 50, api.ErrNone},
		"fewer bytes": {func(d *disk.Disk) api.Errno {
			must(t, d.Remove("f"), d.Create("f"), d.Append("f", fileOf(l[:70])))
			return api.OK
		}, 50, api.ErrArg},
		"a block less": {func(d *disk.Disk) api.Errno {
			must(t, d.Remove("f"), d.Create("f"), d.Append("f", fileOf(l[:100])))
			return api.OK
		}, 100, api.ErrArg},
	}
	for what, v := range change {
		d := withFile(t, "f", fileOf(l))
		r := newReader(t, d, "f")
		next(t, r, l[:7]...)
		must(t, v.do(d))
		next(t, r, l[7:v.told]...)
		if _, is, err := r.Next(); is || err != v.want {
			t.Errorf("%s: %v, %v, want %v", what, is, err, v.want)
		}
		ended(t, d, r, v.want)
	}
}
