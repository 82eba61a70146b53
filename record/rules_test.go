package record_test

import (
	"fmt"
	"math"
	"slices"
	"strings"
	"testing"

	"cartage/api"
	"cartage/disk"
	"cartage/record"
)

// spoil writes over a row, and over the room behind it.
func spoil(l []api.Rec) {
	l = l[:cap(l)]
	for i := range l {
		l[i] = api.Rec{Key: 99, Val: 99}
	}
}

// TestHandedIn is R1: a list stays as it was, and the room behind it, also where Write answers an error; and it is not kept.
func TestHandedIn(t *testing.T) {
	for _, n := range counts() {
		whole := some(n + 60)
		was := slices.Clone(whole)
		d := disk.New(100)
		for _, name := range []string{"f", "f", "", "g"} { // there is one, and no room for more
			record.Write(d, name, whole[:n])
			if !slices.Equal(whole, was) {
				t.Fatalf("%d records: Write(%q) changed them", n, name)
			}
		}
		d = disk.New(10000)
		must(t, record.Write(d, "f", whole[:n]))
		spoil(whole)
		reads(t, d, "f", was[:n], api.OK)
	}
}

// TestAnswersAreTheCallers is R1: what Read answers shares nothing with the file, nor with another answer.
func TestAnswersAreTheCallers(t *testing.T) {
	for _, n := range counts() {
		d := withFile(t, "f", fileOf(some(n)))
		first, err := record.Read(d, "f")
		must(t, err)
		second, err := record.Read(d, "f")
		must(t, err)
		spoil(second)
		if !slices.Equal(first, some(n)) {
			t.Fatalf("two answers of %d records share them", n)
		}
		reads(t, d, "f", some(n), api.OK)
		onDisk(t, d, "f", fileOf(some(n)))
		// What the file becomes is nothing to what was answered.
		must(t, d.WriteAt("f", 0, make([]byte, len(fileOf(some(n))))))
		if !slices.Equal(first, some(n)) {
			t.Fatalf("an answer of %d records is the file's", n)
		}
	}
}

// TestNoDisk is R2: no disk is an argument that may not be.
func TestNoDisk(t *testing.T) {
	for _, name := range []string{"f", ""} {
		for _, l := range [][]api.Rec{nil, some(1), some(60)} {
			if err := record.Write(nil, name, l); err != api.ErrArg {
				t.Errorf("Write: %v", err)
			}
		}
		if l, err := record.Read(nil, name); len(l) != 0 || err != api.ErrArg {
			t.Errorf("Read: %v, %v", l, err)
		}
		w, err := record.NewWriter(nil, name)
		if w != nil || err != api.ErrArg {
			t.Errorf("NewWriter: %v, %v", w, err)
		}
		r, err := record.NewReader(nil, name)
		if r != nil || err != api.ErrArg {
			t.Errorf("NewReader: %v, %v", r, err)
		}
		// Behind that error there is neither, and still no call panics.
		closed(t, disk.New(0), w)
		ended(t, disk.New(0), r, api.ErrState)
	}
	ended(t, disk.New(0), &record.Reader{}, api.OK)
}

// TestWhatever is R2 and R5: whatever becomes of the disk and of its files on the way, each call answers, and nothing but zero
// values beside an error.
func TestWhatever(t *testing.T) {
	names := []string{"a", "b", "c", "", strings.Repeat("n", 25)}
	for round := range 300 {
		x := dice(round)
		d := disk.New(x.roll(300))
		var ws []*record.Writer
		var rs []*record.Reader
		for range 300 {
			name := names[x.roll(len(names))]
			switch x.roll(16) {
			case 0:
				record.Write(d, name, x.recs(x.roll(130)))
			case 1:
				if l, err := record.Read(d, name); err != api.OK && l != nil {
					t.Fatalf("Read: %d records, %v", len(l), err)
				}
			case 2:
				w, err := record.NewWriter(d, name)
				if (w != nil) != (err == api.OK) {
					t.Fatalf("NewWriter: %v, %v", w, err)
				}
				ws = append(ws, w)
			case 3, 4:
				r, err := record.NewReader(d, name)
				if (r != nil) != (err == api.OK) {
					t.Fatalf("NewReader: %v, %v", r, err)
				}
				rs = append(rs, r)
			case 5:
				d.Remove(name)
			case 6:
				d.Rename(name, names[x.roll(len(names))])
			case 7:
				d.Arm(1+x.roll(20), all()[:x.roll(60)])
			case 8:
				d.WriteAt(name, x.roll(900), []byte{byte(x.roll(256))})
			case 9:
				d.Append(name, make([]byte, x.roll(20)))
			case 10, 11, 12:
				for i := 0; len(ws) > 0 && i < 30; i++ {
					ws[x.roll(len(ws))].Put(api.Rec{Key: x.number()})
				}
			case 13:
				if len(ws) > 0 {
					ws[x.roll(len(ws))].Close()
				}
			default:
				for i := 0; len(rs) > 0 && i < 30; i++ {
					got, is, err := rs[x.roll(len(rs))].Next()
					if is && err != api.OK || !is && got != (api.Rec{}) {
						t.Fatalf("Next: %v, %v, %v", got, is, err)
					}
				}
			}
			if x.roll(3) == 0 {
				d.Restart()
			}
		}
	}
}

// TestApart is R3: writers and readers of one disk, by turns, have nothing to do with each other.
func TestApart(t *testing.T) {
	l, m := some(173), some(1120)[1000:]
	d := withFile(t, "read", fileOf(l))
	a, b := newWriter(t, d, "a"), newWriter(t, d, "b")
	r, late, none := newReader(t, d, "read"), newReader(t, d, "read"), newReader(t, d, "a")
	for i := range l {
		must(t, a.Put(l[i]))
		next(t, r, l[i])
		if i < len(m) {
			must(t, b.Put(m[i]))
		}
		if i%3 == 0 {
			next(t, late, l[i/3])
		}
	}
	must(t, b.Close())
	closed(t, d, b)
	must(t, a.Put(api.Rec{}))
	ended(t, d, r, api.OK)
	next(t, late, l[58:]...)
	ended(t, d, late, api.OK)
	ended(t, d, none, api.OK) // the file had no bytes then
	must(t, a.Close())
	reads(t, d, "a", append(l, api.Rec{}), api.OK)
	reads(t, d, "b", m, api.OK)
}

// TestTwoDisks is R3: what is on one disk is not on the other one.
func TestTwoDisks(t *testing.T) {
	d, e := disk.New(1000), disk.New(1000)
	a, b := newWriter(t, d, "f"), newWriter(t, e, "f")
	for i, r := range some(90) {
		must(t, a.Put(r))
		if i%2 == 0 {
			must(t, b.Put(r))
		}
	}
	d.Crash(nil)
	if err := a.Close(); err != api.ErrDown {
		t.Errorf("Close: %v", err)
	}
	must(t, b.Close())
	if n, err := e.Size("f"); n != 45*16+6 || err != api.OK {
		t.Errorf("%d bytes, %v", n, err)
	}
}

// TestSameAnswers is R4: the same calls have the same answers, and leave the same bytes by as many operations.
func TestSameAnswers(t *testing.T) {
	told := func() string {
		var b strings.Builder
		x := dice(3)
		for range 60 {
			d := disk.New(20 + x.roll(200))
			d.Arm(x.roll(12), all()[:x.roll(100)])
			err := record.Write(d, "f", x.recs(x.roll(160)))
			w, wErr := record.NewWriter(d, "g")
			if wErr == api.OK {
				wErr = put(w, x.recs(x.roll(160)))
			}
			up(d)
			d.WriteAt("f", x.roll(2000), []byte{7})
			l, lErr := record.Read(d, "f")
			m, mErr := record.Read(d, "g")
			fmt.Fprintln(&b, err, wErr, lErr, mErr, l, m, d.Ops(), d.Used())
		}
		return b.String()
	}
	if told() != told() {
		t.Error("the same calls have other answers")
	}
}

// TestLong: as many records as the greatest graph has edges.
func TestLong(t *testing.T) {
	l := make([]api.Rec, api.MaxEdges)
	for i := range l {
		l[i] = api.Rec{Key: uint64(i) << 30, Val: math.MaxUint64 - uint64(i)}
	}
	d := disk.New(1 << 21)
	must(t, record.Write(d, "f", l))
	reads(t, d, "f", l, api.OK)
	must(t, d.WriteAt("f", 806*20971+30, []byte{1}))
	reads(t, d, "f", nil, api.ErrSum)
}
