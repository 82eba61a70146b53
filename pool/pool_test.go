package pool_test

import (
	"bytes"
	"math"
	"slices"
	"strings"
	"testing"

	"cartage/api"
	"cartage/disk"
	"cartage/pool"
)

// text tells size bytes, none of them 0, that differ from place to place and from mark to mark.
func text(mark byte, size int) string {
	var b strings.Builder
	for i := range size {
		b.WriteByte(mark + byte(i%23))
	}
	return b.String()
}

// must asks for OK.
func must(t *testing.T, errs ...api.Errno) {
	t.Helper()
	for i, err := range errs {
		if err != api.OK {
			t.Fatalf("call %d: %v", i, err)
		}
	}
}

// put makes a file with these bytes, synced.
func put(t *testing.T, d *disk.Disk, name, s string) {
	t.Helper()
	must(t, d.Create(name), d.Append(name, []byte(s)), d.Sync(name))
}

// withFiles tells a disk with these files, by names and bytes.
func withFiles(t *testing.T, files ...string) *disk.Disk {
	t.Helper()
	d := disk.New(10000)
	for i := 0; i < len(files); i += 2 {
		put(t, d, files[i], files[i+1])
	}
	return d
}

// onDisk asks for the bytes that a file has on the disk.
func onDisk(t *testing.T, d *disk.Disk, name, want string) {
	t.Helper()
	n, err := d.Size(name)
	must(t, err)
	b, err := d.ReadAt(name, 0, n)
	must(t, err)
	if string(b) != want {
		t.Fatalf("%s has %q on the disk, want %q", name, b, want)
	}
}

// reads asks for the bytes that a file has by the pool, from at on.
func reads(t *testing.T, p *pool.Pool, name string, at int, want string) {
	t.Helper()
	b, err := p.ReadAt(name, at, len(want))
	if err != api.OK || string(b) != want {
		t.Fatalf("ReadAt(%q, %d, %d) = %q, %v, want %q", name, at, len(want), b, err, want)
	}
}

// writes writes bytes by the pool.
func writes(t *testing.T, p *pool.Pool, name string, at int, s string) {
	t.Helper()
	if err := p.WriteAt(name, at, []byte(s)); err != api.OK {
		t.Fatalf("WriteAt(%q, %d, %q) = %v", name, at, s, err)
	}
}

// refuses asks ReadAt for an error, with nothing beside it.
func refuses(t *testing.T, p *pool.Pool, name string, at, n int, want api.Errno) {
	t.Helper()
	if b, err := p.ReadAt(name, at, n); err != want || len(b) != 0 {
		t.Fatalf("ReadAt(%q, %d, %d) = %q, %v, want %v", name, at, n, b, err, want)
	}
}

// counts asks how many pages are held, and how many of them are dirty.
func counts(t *testing.T, p *pool.Pool, resident, dirty int) {
	t.Helper()
	for range 2 {
		if p.Resident() != resident || p.Dirty() != dirty {
			t.Fatalf("%d pages are held, %d dirty, want %d, %d", p.Resident(), p.Dirty(), resident, dirty)
		}
	}
}

// takes asks how many operations of the disk something takes.
func takes(t *testing.T, d *disk.Disk, want int, what func()) {
	t.Helper()
	before := d.Ops()
	what()
	if n := d.Ops() - before; n != want {
		t.Fatalf("%d operations, want %d", n, want)
	}
}

// held asks whether these pages of a file are held, told by where they begin: to read one that is takes the size alone.
// They are used then, in this order.
func held(t *testing.T, d *disk.Disk, p *pool.Pool, name string, ats ...int) {
	t.Helper()
	for _, at := range ats {
		takes(t, d, 1, func() { _, err := p.ReadAt(name, at, 1); must(t, err) })
	}
}

// TestExample is the chapter's.
func TestExample(t *testing.T) {
	f := text('a', 128)
	d := withFiles(t, "f", f)
	p := pool.New(d, 1)
	writes(t, p, "f", 0, "XYZ")
	onDisk(t, d, "f", f)
	counts(t, p, 1, 1)
	reads(t, p, "f", 64, f[64:65])
	onDisk(t, d, "f", "XYZ"+f[3:])
	counts(t, p, 1, 0)
}

func TestNew(t *testing.T) {
	f := text('a', 64*6+1)
	for _, v := range []struct{ frames, want int }{
		{math.MinInt, 1}, {-2, 1}, {-1, 1}, {0, 1}, {1, 1}, {2, 2}, {3, 3}, {6, 6}, {7, 7}, {8, 7}, {1000, 7}, {math.MaxInt, 7},
	} {
		d := withFiles(t, "f", f)
		var p *pool.Pool
		takes(t, d, 0, func() { p = pool.New(d, v.frames) })
		counts(t, p, 0, 0)
		reads(t, p, "f", 0, f)
		counts(t, p, v.want, 0)
		for i := 7 - v.want; i < 7; i++ {
			held(t, d, p, "f", i*64)
		}
		writes(t, p, "f", 0, f)
		counts(t, p, v.want, v.want)
	}
}

// TestNewOverNothing: no disk is as one without files (R2).
func TestNewOverNothing(t *testing.T) {
	p := pool.New(nil, 3)
	refuses(t, p, "f", 0, 0, api.ErrNone)
	if err := p.WriteAt("f", 0, nil); err != api.ErrNone {
		t.Errorf("WriteAt: %v", err)
	}
	must(t, p.Flush("f"))
	p.Drop("f")
	counts(t, p, 0, 0)
}

// sizes has those of files: none, within a page, one just full, and more.
var sizes = []int{0, 1, 2, 63, 64, 65, 127, 128, 129, 200}

// TestReadAt: all that may be read, by one frame, by a few, and by as many as there are pages.
func TestReadAt(t *testing.T) {
	for _, size := range sizes {
		f := text('a', size)
		for _, frames := range []int{1, 2, 4} {
			d := withFiles(t, "f", f)
			p := pool.New(d, frames)
			for at := 0; at <= size; at++ {
				for n := 0; n <= size-at; n += 1 + n/3 {
					reads(t, p, "f", at, f[at:at+n])
				}
				reads(t, p, "f", at, f[at:])
			}
			counts(t, p, min(frames, (size+63)/64), 0)
			onDisk(t, d, "f", f)
		}
	}
}

// wrong has places and lengths that a file of 130 bytes does not have.
var wrong = []struct{ at, n int }{
	{0, 131}, {1, 130}, {130, 1}, {131, 0}, {131, -1}, {64, 67}, {128, 3}, {129, 2}, {192, 0}, {192, 1},
	{-1, 0}, {-1, 1}, {-1, 131}, {-64, 64}, {0, -1}, {1, -1}, {130, -1}, {130, -130}, {200, -100}, {-1, -1},
	{math.MaxInt, 0}, {math.MaxInt, 1}, {math.MaxInt, math.MaxInt}, {0, math.MaxInt}, {1, math.MaxInt}, {130, math.MaxInt},
	{math.MinInt, 0}, {math.MinInt, 1}, {math.MinInt, math.MinInt}, {math.MinInt, math.MaxInt}, {0, math.MinInt}, {math.MaxInt, math.MinInt},
}

func TestReadAtOfWhatItHasNot(t *testing.T) {
	f := text('a', 130)
	d := withFiles(t, "f", f, "empty", "")
	p := pool.New(d, 2)
	check := func(resident, dirty int) {
		for _, v := range wrong {
			takes(t, d, 1, func() { refuses(t, p, "f", v.at, v.n, api.ErrArg) })
			counts(t, p, resident, dirty)
		}
		refuses(t, p, "empty", 0, 1, api.ErrArg)
		refuses(t, p, "empty", 1, 0, api.ErrArg)
		refuses(t, p, "empty", -1, 0, api.ErrArg)
	}
	check(0, 0)
	writes(t, p, "f", 60, "uvwxyz")
	check(2, 2)
	reads(t, p, "f", 0, f[:60]+"uvwxyz"+f[66:])
}

// TestNoBytes: none are read or written of any place up to the end, and no page is needed for it.
func TestNoBytes(t *testing.T) {
	f := text('a', 130)
	d := withFiles(t, "f", f, "empty", "")
	p := pool.New(d, 2)
	for at := range 131 {
		takes(t, d, 2, func() {
			reads(t, p, "f", at, "")
			must(t, p.WriteAt("f", at, nil))
		})
	}
	reads(t, p, "empty", 0, "")
	must(t, p.WriteAt("empty", 0, []byte{}), p.Flush("empty"))
	counts(t, p, 0, 0)
	onDisk(t, d, "empty", "")
}

// TestWriteAt: all that may be written, by one frame, by a few, and by as many as there are pages.
func TestWriteAt(t *testing.T) {
	for _, size := range sizes {
		for _, frames := range []int{1, 2, 4} {
			f := text('a', size)
			d := withFiles(t, "f", f)
			p := pool.New(d, frames)
			for at := 0; at <= size; at += 1 + at%5 {
				for n := 0; n <= size-at; n += 1 + n/3 {
					s := text(byte('0'+at%20+n%30), n)
					writes(t, p, "f", at, s)
					f = f[:at] + s + f[at+n:]
					reads(t, p, "f", 0, f)
				}
			}
			must(t, p.Flush("f"))
			onDisk(t, d, "f", f)
			counts(t, p, min(frames, (size+63)/64), 0)
		}
	}
}

func TestWriteAtOfWhatItHasNot(t *testing.T) {
	f := text('a', 130)
	d := withFiles(t, "f", f, "empty", "")
	p := pool.New(d, 3)
	check := func(resident, dirty int) {
		for _, v := range wrong {
			if v.n < 0 || v.n > 1000 {
				continue
			}
			takes(t, d, 1, func() {
				if err := p.WriteAt("f", v.at, make([]byte, v.n)); err != api.ErrArg {
					t.Fatalf("WriteAt(%d) of %d bytes: %v", v.at, v.n, err)
				}
			})
			counts(t, p, resident, dirty)
		}
		for _, at := range []int{-1, 0, 1} {
			if err := p.WriteAt("empty", at, []byte("x")); err != api.ErrArg {
				t.Fatalf("WriteAt(%d) of an empty file: %v", at, err)
			}
		}
	}
	check(0, 0)
	writes(t, p, "f", 60, "uvwxyz")
	check(2, 2)
	reads(t, p, "f", 0, f[:60]+"uvwxyz"+f[66:])
	must(t, p.Flush("f"), p.Flush("empty"))
	onDisk(t, d, "f", f[:60]+"uvwxyz"+f[66:])
	onDisk(t, d, "empty", "")
}

// TestNoFile: the error of the disk's Size is told ahead of ErrArg.
func TestNoFile(t *testing.T) {
	d := withFiles(t, "f", text('a', 130))
	p := pool.New(d, 2)
	writes(t, p, "f", 0, "x")
	for _, name := range []string{"", "g", "F", "f\x00", "ff", strings.Repeat("f", 24), strings.Repeat("f", 25), strings.Repeat("f", 1000)} {
		for _, v := range wrong {
			refuses(t, p, name, v.at, v.n, api.ErrNone)
		}
		refuses(t, p, name, 0, 0, api.ErrNone)
		for _, at := range []int{math.MinInt, -1, 0, 1, math.MaxInt} {
			if err := p.WriteAt(name, at, []byte("x")); err != api.ErrNone {
				t.Errorf("WriteAt(%q, %d): %v", name, at, err)
			}
		}
		takes(t, d, 0, func() {
			must(t, p.Flush(name))
			p.Drop(name)
		})
	}
	counts(t, p, 1, 1)
}

// TestDown: while the disk is down nothing is read, be it held; Flush tells it just if there is something to write.
func TestDown(t *testing.T) {
	f := text('a', 130)
	d := withFiles(t, "f", f, "g", f)
	p := pool.New(d, 3)
	writes(t, p, "f", 0, "x")
	reads(t, p, "g", 64, f[64:])
	d.Crash(nil)
	for _, name := range []string{"f", "g", "none", ""} {
		refuses(t, p, name, 0, 1, api.ErrDown)
		refuses(t, p, name, -1, -1, api.ErrDown)
		if err := p.WriteAt(name, 0, []byte("y")); err != api.ErrDown {
			t.Errorf("WriteAt(%q): %v", name, err)
		}
		if err := p.WriteAt(name, -1, nil); err != api.ErrDown {
			t.Errorf("WriteAt(%q): %v", name, err)
		}
		want := api.OK
		if name == "f" {
			want = api.ErrDown
		}
		if err := p.Flush(name); err != want {
			t.Errorf("Flush(%q): %v", name, err)
		}
		counts(t, p, 3, 1)
	}
	p.Drop("g")
	counts(t, p, 1, 1)
	d.Restart()
	reads(t, p, "f", 0, "x"+f[1:])
	must(t, p.Flush("f"))
	onDisk(t, d, "f", "x"+f[1:])
}

// TestWrittenIsRead: whatever is held, what was written is read, of files by turns.
func TestWrittenIsRead(t *testing.T) {
	for _, frames := range []int{1, 2, 3, 4, 5, 9, 10, 11, 100} {
		want := map[string]string{"a": text('a', 200), "b": text('b', 129), "c": text('c', 130)}
		d := withFiles(t, "a", want["a"], "b", want["b"], "c", want["c"])
		p := pool.New(d, frames)
		for i := range 60 {
			name := string(rune('a' + i%3))
			at, n := i*37%100, i*13%30
			s := text(byte('0'+i), n)
			writes(t, p, name, at, s)
			want[name] = want[name][:at] + s + want[name][at+n:]
			for other, s := range want {
				reads(t, p, other, 0, s)
			}
			if n := p.Resident(); n > frames || p.Dirty() > n {
				t.Fatalf("%d frames hold %d pages, %d dirty", frames, n, p.Dirty())
			}
		}
		for name, s := range want {
			must(t, p.Flush(name))
			onDisk(t, d, name, s)
		}
	}
}

// TestPageThatGoes: the one that was used longest ago, by reading or by writing; it is on the disk ahead of that.
func TestPageThatGoes(t *testing.T) {
	f := text('a', 256)
	d := withFiles(t, "f", f)
	p := pool.New(d, 3)
	writes(t, p, "f", 0, "0")
	writes(t, p, "f", 64, "1")
	writes(t, p, "f", 128, "2")
	reads(t, p, "f", 0, "0") // the second one was used longest ago then
	onDisk(t, d, "f", f)
	takes(t, d, 3, func() { reads(t, p, "f", 192, f[192:193]) }) // the size, a page that is written, a page that is read
	onDisk(t, d, "f", f[:64]+"1"+f[65:])
	counts(t, p, 3, 2)
	held(t, d, p, "f", 128, 0, 192)
	takes(t, d, 3, func() { reads(t, p, "f", 64, "1") })
	onDisk(t, d, "f", f[:64]+"1"+f[65:128]+"2"+f[129:])
	counts(t, p, 3, 1)
	held(t, d, p, "f", 192, 64, 0)
	takes(t, d, 2, func() { reads(t, p, "f", 128, "2") }) // the one that goes is not dirty
	held(t, d, p, "f", 0, 64, 128)
	counts(t, p, 3, 1)
}

// TestWrittenToIsUsed: a page that is written into is then the one that was used last.
func TestWrittenToIsUsed(t *testing.T) {
	f := text('a', 192)
	d := withFiles(t, "f", f)
	p := pool.New(d, 2)
	reads(t, p, "f", 0, f[:65])
	writes(t, p, "f", 0, "x")
	takes(t, d, 2, func() { reads(t, p, "f", 128, f[128:129]) }) // the second page went, that is not dirty
	held(t, d, p, "f", 0, 128)
}

// TestNoUse: Flush, Resident and Dirty leave the order as it was, and so do calls that are refused.
func TestNoUse(t *testing.T) {
	f := text('a', 192)
	d := withFiles(t, "f", f, "g", f)
	p := pool.New(d, 2)
	writes(t, p, "f", 0, "x")
	reads(t, p, "g", 0, f[:1])
	must(t, p.Flush("f"))
	counts(t, p, 2, 0)
	refuses(t, p, "f", 0, 193, api.ErrArg)
	reads(t, p, "f", 0, "")
	must(t, p.WriteAt("f", 0, nil))
	reads(t, p, "g", 64, f[64:65])
	held(t, d, p, "g", 0, 64)
	takes(t, d, 2, func() { reads(t, p, "f", 0, "x") })
}

// TestClean: a page that is not dirty is never written, whether it goes or is flushed.
func TestClean(t *testing.T) {
	f := text('a', 256)
	d := withFiles(t, "f", f)
	p := pool.New(d, 2)
	takes(t, d, 5, func() { reads(t, p, "f", 0, f) })      // the size, and four pages
	takes(t, d, 5, func() { reads(t, p, "f", 0, f) })      // by the frames' order none of them is held any more
	takes(t, d, 0, func() { must(t, p.Flush("f")) })       // nothing was written
	takes(t, d, 2, func() { writes(t, p, "f", 0, f[:1]) }) // the same bytes as before are written, too
	counts(t, p, 2, 1)
	takes(t, d, 1, func() { must(t, p.Flush("f")) })
	counts(t, p, 2, 0)
	takes(t, d, 3, func() { reads(t, p, "f", 64, f[64:129]) }) // it goes once more: it is not dirty any more
	takes(t, d, 2, func() { reads(t, p, "f", 0, f[:1]) })      // and is read anew: it is not dirty
	takes(t, d, 0, func() { must(t, p.Flush("f")) })
	counts(t, p, 2, 0)
}

// TestOperations: the size is asked for once, and what is held is not read again.
func TestOperations(t *testing.T) {
	f := text('a', 300)
	d := withFiles(t, "f", f)
	p := pool.New(d, 5)
	takes(t, d, 2, func() { reads(t, p, "f", 70, f[70:80]) })
	takes(t, d, 1, func() { reads(t, p, "f", 64, f[64:128]) })
	takes(t, d, 3, func() { reads(t, p, "f", 63, f[63:129]) })
	takes(t, d, 1, func() { writes(t, p, "f", 10, f[:150]) })
	counts(t, p, 3, 3)
	takes(t, d, 2, func() { writes(t, p, "f", 256, f[256:]) }) // a page that is written all over is read all the same
	takes(t, d, 2, func() { reads(t, p, "f", 0, f[:10]+f[:150]+f[160:]) })
	counts(t, p, 5, 4)
	takes(t, d, 4, func() { must(t, p.Flush("f")) })
	counts(t, p, 5, 0)
	takes(t, d, 1, func() { reads(t, p, "f", 0, f[:10]+f[:150]+f[160:]) })
}

// TestFlush: of that file alone, rising, whichever page was written into first.
func TestFlush(t *testing.T) {
	f := text('a', 300)
	for _, ats := range [][]int{{0, 64, 128, 192, 256}, {256, 192, 128, 64, 0}, {128, 0, 256, 64, 192}, {299, 63, 130}} {
		for done := range len(ats) + 1 {
			d := withFiles(t, "f", f, "ff", f, "e", f)
			p := pool.New(d, 20)
			for _, at := range ats {
				writes(t, p, "ff", at, "X")
				writes(t, p, "f", at, "X")
				writes(t, p, "e", at, "X")
			}
			reads(t, p, "f", 0, f[:0])
			d.Arm(done+1, slices.Repeat([]bool{true}, 1000))
			want, rest := api.OK, len(ats)-done
			if rest > 0 {
				want = api.ErrDown
			}
			if err := p.Flush("f"); err != want {
				t.Fatalf("Flush: %v, want %v", err, want)
			}
			counts(t, p, 3*len(ats), 2*len(ats)+rest)
			d.Arm(0, nil)
			d.Restart()
			s := []byte(f)
			for _, at := range slices.Sorted(slices.Values(ats))[:done] {
				s[at] = 'X'
			}
			onDisk(t, d, "f", string(s))
			onDisk(t, d, "ff", f)
			onDisk(t, d, "e", f)
			takes(t, d, rest, func() { must(t, p.Flush("f")) }) // what is left of it
			takes(t, d, 0, func() { must(t, p.Flush("f")) })
			counts(t, p, 3*len(ats), 2*len(ats))
		}
	}
}

// TestFlushedAgain: a page that is written into behind Flush is dirty again.
func TestFlushedAgain(t *testing.T) {
	f := text('a', 100)
	d := withFiles(t, "f", f)
	p := pool.New(d, 2)
	for i := range 5 {
		s := text(byte('0'+i), 10)
		writes(t, p, "f", 60, s)
		counts(t, p, 2, 2)
		takes(t, d, 2, func() { must(t, p.Flush("f")) })
		counts(t, p, 2, 0)
		onDisk(t, d, "f", f[:60]+s+f[70:])
		writes(t, p, "f", 99, "!")
		takes(t, d, 1, func() { must(t, p.Flush("f")) })
		f = f[:60] + s + f[70:99] + "!"
		onDisk(t, d, "f", f)
	}
}

// TestFlushIsNoSync: what was flushed is there now; it lasts as soon as the disk has it synced.
func TestFlushIsNoSync(t *testing.T) {
	f := text('a', 100)
	d := withFiles(t, "f", f)
	p := pool.New(d, 2)
	writes(t, p, "f", 0, "x")
	must(t, p.Flush("f"))
	d.Crash(nil)
	d.Restart()
	onDisk(t, d, "f", f)
}

// TestDrop: no page of that file is held, none is written; what was written into it is gone.
func TestDrop(t *testing.T) {
	f := text('a', 200)
	d := withFiles(t, "f", f, "g", f, "ff", f)
	p := pool.New(d, 7)
	writes(t, p, "f", 60, "uvwxyz")
	reads(t, p, "f", 199, f[199:])
	writes(t, p, "g", 60, "uvwxyz")
	reads(t, p, "ff", 0, f[:1])
	writes(t, p, "ff", 64, "!")
	counts(t, p, 7, 5)
	takes(t, d, 0, func() { p.Drop("f") })
	counts(t, p, 4, 3)
	takes(t, d, 0, func() { p.Drop("f"); p.Drop("none"); p.Drop(""); must(t, p.Flush("f")) })
	counts(t, p, 4, 3)
	onDisk(t, d, "f", f)
	held(t, d, p, "g", 0, 64)
	held(t, d, p, "ff", 0, 64)
	takes(t, d, 4, func() { reads(t, p, "f", 0, f[:129]) }) // its frames are free: none has to go
	counts(t, p, 7, 3)
	held(t, d, p, "g", 0, 64)
	held(t, d, p, "ff", 0, 64)
	held(t, d, p, "f", 0, 64, 128)
	p.Drop("g")
	p.Drop("ff")
	p.Drop("f")
	counts(t, p, 0, 0)
	for _, name := range []string{"f", "g", "ff"} {
		reads(t, p, name, 0, f)
		onDisk(t, d, name, f)
	}
}

// TestDropAheadOfChange: behind Drop the file may be changed beside the pool, which has it as it is then.
func TestDropAheadOfChange(t *testing.T) {
	f := text('a', 100)
	d := withFiles(t, "f", f)
	p := pool.New(d, 5)
	writes(t, p, "f", 0, "!")
	p.Drop("f")
	must(t, d.Append("f", []byte(f)))
	reads(t, p, "f", 0, f+f)
	p.Drop("f")
	must(t, d.Remove("f"))
	refuses(t, p, "f", 0, 0, api.ErrNone)
	put(t, d, "f", "xyz")
	reads(t, p, "f", 0, "xyz")
	refuses(t, p, "f", 0, 4, api.ErrArg)
}

// TestHandedIn is R1 of WriteAt: what it was handed stays, and may be written over.
func TestHandedIn(t *testing.T) {
	f := text('a', 200)
	d := withFiles(t, "f", f)
	p := pool.New(d, 2)
	roomy := append(make([]byte, 0, 300), text('A', 200)...)
	must(t, p.WriteAt("f", 0, roomy[:150]))
	if string(roomy) != text('A', 200) || !bytes.Equal(roomy[200:300], make([]byte, 100)) {
		t.Errorf("what was handed in became %q", roomy[:300])
	}
	for i := range roomy[:300] {
		roomy[:300][i] = '!'
	}
	want := text('A', 150) + f[150:]
	reads(t, p, "f", 0, want)
	must(t, p.Flush("f"))
	onDisk(t, d, "f", want)
}

// TestHandedOut is R1 of ReadAt: what it tells is the caller's, with the room behind it.
func TestHandedOut(t *testing.T) {
	f := text('a', 200)
	d := withFiles(t, "f", f)
	p := pool.New(d, 4)
	for _, v := range []struct{ at, n int }{{0, 64}, {64, 64}, {0, 10}, {50, 100}, {192, 8}, {0, 200}, {70, 0}} {
		first, err := p.ReadAt("f", v.at, v.n)
		must(t, err)
		second, err := p.ReadAt("f", v.at, v.n)
		must(t, err)
		for i := range first[:cap(first)] {
			first[:cap(first)][i] = '!'
		}
		if string(second) != f[v.at:v.at+v.n] {
			t.Fatalf("two answers share their bytes: %q", second)
		}
		_ = append(second, "????????"...)
		reads(t, p, "f", 0, f)
	}
	b, err := p.ReadAt("f", 0, 200)
	must(t, err)
	writes(t, p, "f", 0, text('A', 200))
	must(t, p.Flush("f"))
	if string(b) != f {
		t.Errorf("an answer was changed later: %q", b)
	}
}

// TestTwoPools is R3: over two disks, with the same names, each is as if it were alone.
func TestTwoPools(t *testing.T) {
	f, g := text('a', 130), text('A', 130)
	c, d := withFiles(t, "f", f), withFiles(t, "f", g)
	p, q := pool.New(c, 2), pool.New(d, 2)
	writes(t, p, "f", 0, "x")
	counts(t, q, 0, 0)
	reads(t, q, "f", 0, g)
	writes(t, q, "f", 129, "y")
	must(t, q.Flush("f"))
	counts(t, p, 1, 1)
	onDisk(t, c, "f", f)
	q.Drop("f")
	counts(t, p, 1, 1)
	reads(t, p, "f", 0, "x"+f[1:])
	d.Crash(nil)
	reads(t, p, "f", 0, "x"+f[1:])
	must(t, p.Flush("f"))
	onDisk(t, c, "f", "x"+f[1:])
	d.Restart()
	onDisk(t, d, "f", g)
}

// TestTwoPoolsOverOneDisk: they have to do with each other by the disk alone.
func TestTwoPoolsOverOneDisk(t *testing.T) {
	f := text('a', 130)
	d := withFiles(t, "f", f)
	p, q := pool.New(d, 2), pool.New(d, 2)
	writes(t, p, "f", 0, "x")
	reads(t, q, "f", 0, f)
	q.Drop("f")
	must(t, q.Flush("f"), p.Flush("f"))
	reads(t, q, "f", 0, "x"+f[1:])
	counts(t, p, 1, 0)
	counts(t, q, 2, 0)
}
