package pool_test

import (
	"math"
	"slices"
	"testing"

	"cartage/api"
	"cartage/disk"
	"cartage/pool"
)

// all has every unsynced sector stay at a crash, so that the disk has just what was written to it.
func all() []bool { return slices.Repeat([]bool{true}, 10000) }

// up restarts a disk, armed no more.
func up(d *disk.Disk) {
	d.Arm(0, nil)
	d.Restart()
}

// TestCrashAheadOfEachOperation: with one frame, whatever of a call is done is done, and nothing else is.
func TestCrashAheadOfEachOperation(t *testing.T) {
	f, g := text('a', 256), text('A', 250)
	// The size; then of each page: the one that is held is written, and this one is read.
	for n := 1; n <= 9; n++ {
		d := withFiles(t, "f", f)
		p := pool.New(d, 1)
		writes(t, p, "f", 255, "!")
		d.Arm(n, all())
		if err := p.WriteAt("f", 0, []byte(g)); err != api.ErrDown {
			t.Fatalf("crash %d: %v", n, err)
		}
		up(d)
		done, saved, last := max(n/2-1, 0)*64, max((n-1)/2-1, 0)*64, "!"
		if n < 3 {
			last = f[255:]
		}
		switch {
		case n == 1 || n%2 == 0: // the page could not be written, or was not to be
			counts(t, p, 1, 1)
		default: // it went, and the other one could not be read
			counts(t, p, 0, 0)
		}
		onDisk(t, d, "f", g[:saved]+f[saved:255]+last)
		reads(t, p, "f", 0, g[:done]+f[done:255]+"!")
		must(t, p.Flush("f"))
		onDisk(t, d, "f", g[:done]+f[done:255]+"!")
		writes(t, p, "f", 0, g) // and it goes on
		must(t, p.Flush("f"))
		onDisk(t, d, "f", g+f[250:255]+"!")
	}
}

// TestCrashWhileReading: nothing is told beside the error; pages that could not be written stay dirty.
func TestCrashWhileReading(t *testing.T) {
	f := text('a', 256)
	want := f[:10] + "#" + f[11:140] + "#" + f[141:]
	for frames := 1; frames <= 4; frames++ {
		for n := 1; ; n++ {
			d := withFiles(t, "f", f)
			p := pool.New(d, frames)
			writes(t, p, "f", 140, "#")
			writes(t, p, "f", 10, "#")
			dirty := p.Dirty()
			d.Arm(n, all())
			b, err := p.ReadAt("f", 0, 256)
			if err == api.OK {
				if string(b) != want {
					t.Fatalf("ReadAt: %q, want %q", b, want)
				}
				break
			}
			if err != api.ErrDown || len(b) != 0 {
				t.Fatalf("ReadAt: %q, %v", b, err)
			}
			if p.Resident() > frames || p.Dirty() > dirty {
				t.Fatalf("%d frames hold %d pages, %d dirty", frames, p.Resident(), p.Dirty())
			}
			up(d)
			reads(t, p, "f", 0, want)
			must(t, p.Flush("f"))
			onDisk(t, d, "f", want)
		}
	}
}

// TestCrashWhileWriting: by whatever number of frames, the pages are written into from the first on.
func TestCrashWhileWriting(t *testing.T) {
	f, g := text('a', 256), text('A', 200)
	for frames := 1; frames <= 5; frames++ {
		for n := 1; ; n++ {
			d := withFiles(t, "f", f, "other", f)
			p := pool.New(d, frames)
			writes(t, p, "other", 0, f[:1])
			writes(t, p, "f", 250, "#")
			d.Arm(n, all())
			err := p.WriteAt("f", 30, []byte(g))
			if err == api.OK {
				break
			}
			if err != api.ErrDown || p.Resident() > frames {
				t.Fatalf("WriteAt: %v, %d frames hold %d pages", err, frames, p.Resident())
			}
			up(d)
			b, err := p.ReadAt("f", 0, 256)
			must(t, err)
			done := 0
			for _, end := range []int{34, 98, 162} {
				if string(b[30:30+end]) == g[:end] {
					done = end
				}
			}
			want := f[:30] + g[:done] + f[30+done:250] + "#" + f[251:]
			if string(b) != want {
				t.Fatalf("%d frames, crash %d: %q, want %q", frames, n, b, want)
			}
			must(t, p.Flush("f"), p.Flush("other"))
			onDisk(t, d, "f", want)
			onDisk(t, d, "other", f)
		}
	}
}

// TestNotWrittenStays: a page that can't be written, for whatever reason, keeps its frame, and stays dirty.
func TestNotWrittenStays(t *testing.T) {
	f, g := text('a', 130), text('A', 70)
	d := withFiles(t, "f", f, "g", g)
	p := pool.New(d, 1)
	writes(t, p, "g", 69, "!")
	must(t, d.Rename("g", "away"))
	for range 3 {
		refuses(t, p, "f", 0, 1, api.ErrNone) // the error of writing g
		if err := p.WriteAt("f", 129, []byte("x")); err != api.ErrNone {
			t.Fatalf("WriteAt: %v", err)
		}
		if err := p.Flush("g"); err != api.ErrNone {
			t.Fatalf("Flush: %v", err)
		}
		must(t, p.Flush("f"))
		counts(t, p, 1, 1)
	}
	must(t, d.Rename("away", "g"))
	reads(t, p, "f", 0, f[:1])
	counts(t, p, 1, 0)
	onDisk(t, d, "g", g[:69]+"!")
	onDisk(t, d, "f", f)
}

// TestDroppedIsNotWritten: a page that can't be written may be dropped, and the frame is free.
func TestDroppedIsNotWritten(t *testing.T) {
	f := text('a', 130)
	d := withFiles(t, "f", f, "g", f)
	p := pool.New(d, 1)
	writes(t, p, "g", 129, "!")
	must(t, d.Remove("g"))
	refuses(t, p, "f", 0, 1, api.ErrNone)
	p.Drop("g")
	counts(t, p, 0, 0)
	reads(t, p, "f", 0, f)
}

// TestTorn: a crash takes bytes away that were not synced; what can't be written then stays dirty.
func TestTorn(t *testing.T) {
	f := text('a', 130)
	d := disk.New(100)
	must(t, d.Create("f"), d.Append("f", []byte(f)))
	p := pool.New(d, 3)
	writes(t, p, "f", 64, "x")
	writes(t, p, "f", 128, "y")
	d.Crash(nil)
	d.Restart()
	for range 2 {
		if err := p.Flush("f"); err != api.ErrArg {
			t.Fatalf("Flush: %v", err)
		}
		refuses(t, p, "f", 64, 1, api.ErrArg)
		reads(t, p, "f", 0, "")
		counts(t, p, 2, 2)
	}
	must(t, d.Append("f", make([]byte, 64)))
	must(t, p.Flush("f"))
	onDisk(t, d, "f", string(make([]byte, 64))+"x"+f[65:128]+"y"+f[129:])
}

// TestNoSpace is an error of the disk, too.
func TestNoSpace(t *testing.T) {
	d := disk.New(2)
	must(t, d.Create("f"), d.Append("f", make([]byte, 20)), d.Sync("f"))
	p := pool.New(d, 1)
	writes(t, p, "f", 19, "x")
	must(t, d.Remove("f"), d.Create("f"), d.Create("g"), d.Append("g", make([]byte, 5)))
	if err := p.Flush("f"); err != api.ErrSpace {
		t.Fatalf("Flush: %v", err)
	}
	refuses(t, p, "g", 0, 1, api.ErrSpace)
	counts(t, p, 1, 1)
	must(t, d.Remove("g"))
	must(t, p.Flush("f"))
	counts(t, p, 1, 0)
}

// TestGrown: a file that grew beside the pool has what its page has that is held, and what the disk has elsewhere.
func TestGrown(t *testing.T) {
	f := text('a', 200)
	for _, frames := range []int{1, 2, 4} {
		d := withFiles(t, "f", f[:10])
		p := pool.New(d, frames)
		writes(t, p, "f", 3, "xyz")
		must(t, d.Append("f", []byte(f[10:])))
		d.Arm(2, all()) // what the page lacks can't be read: it stays as it is
		refuses(t, p, "f", 0, 200, api.ErrDown)
		counts(t, p, 1, 1)
		up(d)
		reads(t, p, "f", 192, f[192:]) // and its frame is taken
		counts(t, p, min(frames, 2), min(frames-1, 1))
		reads(t, p, "f", 0, f[:3]+"xyz"+f[6:])
		if p.Resident() != frames {
			t.Fatalf("%d frames hold %d pages", frames, p.Resident())
		}
		writes(t, p, "f", 62, "uvw")
		must(t, p.Flush("f"))
		onDisk(t, d, "f", f[:3]+"xyz"+f[6:62]+"uvw"+f[65:])
	}
}

// TestWhateverIsDone is R2, with files that are changed beside the pool, and with wrong arguments: no call panics, and
// never are more pages held than there are frames.
func TestWhateverIsDone(t *testing.T) {
	names := []string{"a", "b", "c", ""}
	odd := []int{math.MinInt, -65, -1, 0, 1, 2, 63, 64, 65, 100, 128, 190, 300, math.MaxInt - 63, math.MaxInt}
	for round := range 400 {
		r := dice(round)
		d := disk.New(r.roll(60))
		frames := 1 + round%5
		p := pool.New(d, frames)
		for range 200 {
			name, at, n := names[r.roll(len(names))], odd[r.roll(len(odd))], odd[r.roll(len(odd))]
			size := max(0, min(n, 300))
			switch r.roll(14) {
			case 0:
				d.Create(name)
			case 1, 2:
				d.Append(name, make([]byte, size))
			case 3:
				d.WriteAt(name, at, make([]byte, size))
			case 4:
				d.Remove(name)
			case 5:
				d.Rename(name, names[r.roll(len(names))])
			case 6:
				d.Arm(1+r.roll(20), all()[:r.roll(10)])
			case 7:
				p.Drop(name)
			case 8:
				p.Flush(name)
			case 9, 10, 11:
				p.WriteAt(name, at, make([]byte, size))
			default:
				if b, err := p.ReadAt(name, at, n); err != api.OK && len(b) != 0 || err == api.OK && len(b) != n {
					t.Fatalf("ReadAt(%q, %d, %d): %d bytes, %v", name, at, n, len(b), err)
				}
			}
			if r.roll(3) == 0 {
				d.Restart()
			}
			if p.Resident() > frames || p.Dirty() > p.Resident() {
				t.Fatalf("%d frames hold %d pages, %d dirty", frames, p.Resident(), p.Dirty())
			}
		}
	}
}
