package disk_test

import (
	"math"
	"slices"
	"strings"
	"testing"

	"cartage/api"
	"cartage/disk"
)

// bits tells a row of them: 1 is true.
func bits(s string) []bool {
	var l []bool
	for _, c := range s {
		l = append(l, c == '1')
	}
	return l
}

// zeros tells so many bytes that are 0.
func zeros(n int) string { return strings.Repeat("\x00", n) }

// unsynced tells a disk with a file f that was synced with some bytes, and has others now, at least as many.
func unsynced(t *testing.T, synced, now string) *disk.Disk {
	t.Helper()
	d := disk.New(99)
	put(t, d, "f", synced)
	must(t, d.WriteAt("f", 0, []byte(now)))
	return d
}

// TestExamples has the chapter's.
func TestExamples(t *testing.T) {
	s := text('a', 20)
	for _, c := range []struct{ keep, want string }{
		{"", ""},
		{"01", zeros(16) + s[16:]},
	} {
		d := disk.New(2)
		must(t, d.Create("a"), d.Append("a", []byte(s)))
		d.Crash(bits(c.keep))
		d.Restart()
		has(t, d, map[string]string{"a": c.want})
	}
}

func TestCrashOfOneFile(t *testing.T) {
	a, b := text('a', 56), text('A', 56)
	for _, c := range []struct{ synced, now, keep, want string }{
		{"", "", "111", ""},
		{"", b[:1], "", ""},
		{"", b[:1], "0", ""},
		{"", b[:1], "1", b[:1]},
		{"", b[:16], "1", b[:16]},
		{"", b[:17], "1", b[:16]},
		{"", b[:17], "01", zeros(16) + b[16:17]},
		{"", b[:17], "11", b[:17]},
		{"", b[:17], "110", b[:17]},
		{"", b[:17], "111", b[:17]},
		{"", b[:56], "1", b[:16]},
		{"", b[:56], "10", b[:16]},
		{"", b[:56], "01", zeros(16) + b[16:32]},
		{"", b[:56], "0001", zeros(48) + b[48:56]},
		{"", b[:56], "1010", b[:16] + zeros(16) + b[32:48]},
		{"", b[:56], "1001", b[:16] + zeros(32) + b[48:56]},
		{"", zeros(40), "001", zeros(40)}, // 0s that were written are counted where nothing was
		{"", zeros(40), "1", zeros(16)},
		{a[:20], a[:20], "111", a[:20]},
		{a[:20], b[:20], "", a[:20]},
		{a[:20], b[:20], "1", b[:16] + a[16:20]},
		{a[:20], b[:20], "01", a[:16] + b[16:20]},
		{a[:20], b[:20], "11", b[:20]},
		{a[:20], a[:16] + b[16:20], "1", a[:16] + b[16:20]}, // a sector that is the same is not counted
		{a[:20], a[:16] + b[16:20], "01", a[:20]},
		{a[:20], a[:19] + b[19:20], "1", a[:19] + b[19:20]},
		{a[:20], b[:1] + a[1:20], "1", b[:1] + a[1:20]},
		{a[:20], b[:1] + a[1:20], "01", a[:20]},
		{a[:20], a[:15] + b[15:16] + a[16:20], "1", a[:15] + b[15:16] + a[16:20]},
		{a[:20], a[:15] + b[15:16] + a[16:20], "01", a[:20]},
		{a[:20], a[:56], "", a[:20]}, // what reaches beyond is counted, the same or not
		{a[:20], a[:56], "1", a[:32]},
		{a[:20], a[:56], "01", a[:20] + zeros(12) + a[32:48]},
		{a[:20], a[:56], "001", a[:20] + zeros(28) + a[48:56]},
		{a[:20], a[:56], "0001", a[:20]},
		{a[:20], a[:21], "1", a[:21]},
		{a[:20], a[:21], "0", a[:20]},
		{a[:20], b[:56], "0100", a[:16] + b[16:32]},
		{a[:20], b[:56], "1000", b[:16] + a[16:20]},
		{a[:20], b[:56], "1001", b[:16] + a[16:20] + zeros(28) + b[48:56]},
		{a[:16], a[:17], "1", a[:17]},
		{a[:16], a[:17], "01", a[:16]},
		{a[:16], b[:17], "10", b[:16]},
		{a[:48], b[:48], "010", a[:16] + b[16:32] + a[32:48]},
		{a[:48], a[:16] + b[16:32] + a[32:48], "1", a[:16] + b[16:32] + a[32:48]},
		{a[:48], b[:16] + a[16:32] + b[32:48], "01", a[:32] + b[32:48]},
	} {
		d := unsynced(t, c.synced, c.now)
		d.Crash(bits(c.keep))
		if used := (len(c.want) + 15) / 16; d.Used() != used || !d.Down() {
			t.Errorf("%d sectors are used, want %d; down %v", d.Used(), used, d.Down())
		}
		d.Restart()
		has(t, d, map[string]string{"f": c.want})
		if t.Failed() {
			t.Fatalf("synced %q, now %q, keep %s", c.synced, c.now, c.keep)
		}
		d.Crash(bits("1111")) // all that is synced now
		d.Restart()
		has(t, d, map[string]string{"f": c.want})
		must(t, d.Append("f", []byte("xyz")), d.WriteAt("f", 0, []byte("uvw")))
		d.Crash(nil)
		d.Restart()
		has(t, d, map[string]string{"f": c.want})
	}
}

// TestCrashOfManyFiles: sectors are counted over the files in the order of their names, however they were made.
func TestCrashOfManyFiles(t *testing.T) {
	rising := []string{"10", "2", "B", "a", "a\x00", "aa", "b", "\xff"}
	for i := range 3 * len(rising) {
		d := disk.New(99)
		want := map[string]string{}
		for j := range rising {
			name := rising[j*3%len(rising)]
			put(t, d, name, text('a', 20))
			must(t, d.WriteAt(name, 18, []byte(text('A', 30))), d.WriteAt(name, 0, []byte("!")))
			want[name] = text('a', 20)
		}
		must(t, d.Create("Z"), d.Create("synced"), d.Append("synced", []byte("xyz")), d.Sync("synced")) // nothing of them is counted
		want["Z"], want["synced"] = "", "xyz"
		a, b := text('a', 18), text('A', 30)
		want[rising[i/3]] = []string{"!" + a[1:] + text('a', 20)[18:], a + b[:14], a + text('a', 20)[18:] + zeros(12) + b[14:]}[i%3]
		d.Crash(slices.Concat(make([]bool, i), []bool{true}))
		d.Restart()
		has(t, d, want)
	}
}

// TestSyncedStays: what was synced stays, and just that, whatever was done to other files.
func TestSyncedStays(t *testing.T) {
	a, b := text('a', 40), text('A', 40)
	d := disk.New(99)
	put(t, d, "f", a)
	put(t, d, "g", a)
	must(t, d.WriteAt("f", 0, []byte(b)), d.WriteAt("g", 0, []byte(b)), d.Sync("f"))
	d.Crash(nil)
	d.Restart()
	has(t, d, map[string]string{"f": b, "g": a})
	must(t, d.WriteAt("f", 0, []byte(a)), d.Sync("f"), d.WriteAt("f", 3, []byte("later")), d.Append("f", []byte("later")))
	d.Crash(nil)
	d.Restart()
	has(t, d, map[string]string{"f": a, "g": a})
}

// TestBackAsItWas: a sector that was written over, and back, is the same as synced, and is not counted.
func TestBackAsItWas(t *testing.T) {
	a := text('a', 40)
	d := unsynced(t, a, text('A', 40))
	must(t, d.WriteAt("f", 0, []byte(a[:32])))
	d.Crash(bits("1"))
	d.Restart()
	has(t, d, map[string]string{"f": a[:32] + text('A', 40)[32:]})
}

// TestNamesLast: Create, Rename and Remove last at once; what is not synced does not.
func TestNamesLast(t *testing.T) {
	d := disk.New(99)
	put(t, d, "gone", text('a', 40))
	put(t, d, "over", text('b', 40))
	put(t, d, "moved", text('c', 20))
	must(t, d.WriteAt("moved", 0, []byte(text('C', 40))))
	must(t, d.Create("made"), d.Append("made", []byte("xyz")))
	must(t, d.Remove("gone"), d.Create("gone"), d.Append("gone", []byte("xyz"))) // it was synced without bytes
	must(t, d.Rename("moved", "over"))
	d.Crash(nil)
	d.Restart()
	has(t, d, map[string]string{"gone": "", "made": "", "over": text('c', 20)})
}

// TestRenamedIsCounted: a file stands where its name now is, with what it has that is not synced.
func TestRenamedIsCounted(t *testing.T) {
	for i, want := range []map[string]string{{"b": "B", "c": "", "d": ""}, {"b": "", "c": "C", "d": ""}, {"b": "", "c": "", "d": "A"}} {
		d := disk.New(99)
		for _, name := range []string{"a", "b", "c"} {
			must(t, d.Create(name), d.Append(name, []byte(strings.ToUpper(name))))
		}
		must(t, d.Rename("a", "d"))
		d.Crash(slices.Concat(make([]bool, i), []bool{true}))
		d.Restart()
		has(t, d, want)
	}
}

func TestCrashWhileDown(t *testing.T) {
	d := unsynced(t, "abc", "xyzuvw")
	d.Crash(nil)
	d.Crash(bits("1"))
	d.Crash(nil)
	if !d.Down() || d.Ops() != 4 || d.Used() != 1 {
		t.Errorf("down %v, %d operations, %d sectors", d.Down(), d.Ops(), d.Used())
	}
	d.Restart()
	has(t, d, map[string]string{"f": "abc"})
}

func TestRestart(t *testing.T) {
	d := unsynced(t, "abc", "xyzuvw")
	d.Restart() // the disk is up: nothing
	if d.Down() || d.Ops() != 4 {
		t.Errorf("down %v, %d operations", d.Down(), d.Ops())
	}
	has(t, d, map[string]string{"f": "xyzuvw"})
	d.Crash(nil)
	d.Restart()
	d.Restart()
	if d.Down() {
		t.Error("down behind Restart")
	}
	has(t, d, map[string]string{"f": "abc"})
}

// TestArmedOperation: the disk crashes ahead of whichever operation it is armed for, and that one is not done.
func TestArmedOperation(t *testing.T) {
	for _, o := range operations(t) {
		d := unsynced(t, "abc", "xyz"+text('a', 30))
		d.Arm(1, bits("01"))
		if d.Down() || d.Used() != 3 || d.Ops() != 4 {
			t.Errorf("%s: it crashed ahead of time", o.name)
		}
		if err := o.call(d, "f"); err != api.ErrDown {
			t.Errorf("%s: %v", o.name, err)
		}
		if !d.Down() || d.Ops() != 5 || d.Used() != 2 {
			t.Errorf("%s: down %v, %d operations, %d sectors", o.name, d.Down(), d.Ops(), d.Used())
		}
		if err := o.call(d, "f"); err != api.ErrDown {
			t.Errorf("%s, again: %v", o.name, err)
		}
		d.Restart()
		has(t, d, map[string]string{"f": "abc" + zeros(13) + text('a', 30)[13:29]}) // and it is armed no more
	}
}

func TestArm(t *testing.T) {
	for n := 1; n <= 6; n++ {
		d := unsynced(t, "abc", "xyz")
		d.Arm(n, nil)
		d.Down() // these are no operations
		d.Ops()
		d.Used()
		d.Room()
		d.Restart()
		for i := 1; i <= 6; i++ {
			want := api.ErrNone // an operation that has an error is one, too
			if i >= n {
				want = api.ErrDown
			}
			if err := d.Sync("none"); err != want || d.Down() != (i >= n) {
				t.Errorf("Arm(%d), operation %d: %v, down %v", n, i, err, d.Down())
			}
		}
		if d.Ops() != 10 {
			t.Errorf("Arm(%d): %d operations", n, d.Ops())
		}
		d.Restart()
		has(t, d, map[string]string{"f": "abc"})
	}
}

// TestArmedAheadOfSync: a file is not synced by the operation that the crash comes ahead of.
func TestArmedAheadOfSync(t *testing.T) {
	d := unsynced(t, "abc", "xyz")
	d.Arm(2, bits("1"))
	must(t, d.Append("f", []byte("!")))
	if err := d.Sync("f"); err != api.ErrDown {
		t.Errorf("Sync: %v", err)
	}
	d.Restart()
	has(t, d, map[string]string{"f": "xyz!"})
	d.Arm(2, nil)
	must(t, d.Append("f", []byte("!")))
	if err := d.Sync("f"); err != api.ErrDown {
		t.Errorf("Sync: %v", err)
	}
	d.Restart()
	has(t, d, map[string]string{"f": "xyz!"})
}

func TestArmedNoMore(t *testing.T) {
	for _, n := range []int{0, -1, math.MinInt} {
		d := unsynced(t, "abc", "xyz")
		d.Arm(1, nil)
		d.Arm(n, nil)
		has(t, d, map[string]string{"f": "xyz"})
		d.Arm(n, nil) // it was not armed
		has(t, d, map[string]string{"f": "xyz"})
	}
	d := unsynced(t, "abc", "xyz") // a crash of its own
	d.Arm(2, nil)
	d.Crash(bits("1"))
	d.Restart()
	has(t, d, map[string]string{"f": "xyz"})
	has(t, d, map[string]string{"f": "xyz"})
	d = unsynced(t, "abc", "xyz") // far ahead: the count does not wrap round
	d.Arm(math.MaxInt, nil)
	has(t, d, map[string]string{"f": "xyz"})
}

// TestArmedAnew: the last Arm holds, with its keep, and from then on.
func TestArmedAnew(t *testing.T) {
	d := unsynced(t, "abc", "xyz")
	d.Arm(2, nil)
	must(t, d.Append("f", []byte("!")))
	d.Arm(3, bits("1"))
	must(t, d.Append("f", []byte("!")), d.Append("f", []byte("!")))
	if err := d.Append("f", []byte("!")); err != api.ErrDown {
		t.Errorf("the third operation: %v", err)
	}
	d.Restart()
	has(t, d, map[string]string{"f": "xyz!!!"})
	d.Arm(9, nil)
	d.Arm(1, nil)
	if err := d.Sync("f"); err != api.ErrDown {
		t.Errorf("the first operation: %v", err)
	}
	d.Restart()
	has(t, d, map[string]string{"f": "xyz!!!"})
}

// TestArmedWhileDown: operations that are ErrDown count; a crash that does not come leaves it armed, as Restart does.
func TestArmedWhileDown(t *testing.T) {
	d := unsynced(t, "abc", "xyz")
	d.Crash(nil)
	d.Arm(3, nil)
	d.Crash(nil) // nothing at all
	if err := d.Sync("f"); err != api.ErrDown {
		t.Errorf("while it is down: %v", err)
	}
	d.Restart()
	must(t, d.Append("f", []byte("!")))
	if err := d.Sync("f"); err != api.ErrDown || !d.Down() {
		t.Errorf("the third operation: %v", err)
	}
	d.Arm(2, nil) // both while it is down: then there is nothing left of it
	d.Sync("f")
	d.Sync("f")
	d.Restart()
	must(t, d.Append("f", []byte("?")))
	has(t, d, map[string]string{"f": "abc?"})
}

// TestKeepIsNotKept is R1 of keep.
func TestKeepIsNotKept(t *testing.T) {
	d := unsynced(t, "", text('a', 40))
	keep := bits("101")
	d.Arm(1, keep)
	keep[0], keep[1], keep[2] = false, true, false
	d.Sync("f")
	d.Restart()
	has(t, d, map[string]string{"f": text('a', 40)[:16] + zeros(16) + text('a', 40)[32:]})
	keep = bits("1010")
	must(t, d.WriteAt("f", 0, []byte(text('A', 40))))
	d.Arm(1, keep)
	d.Sync("f")
	d.Restart()
	must(t, d.WriteAt("f", 0, []byte(text('a', 40))))
	d.Crash(keep[:2])
	if !slices.Equal(keep, bits("1010")) {
		t.Errorf("keep became %v", keep)
	}
}

// TestAsked has the calls that are no operations, before, between and behind crashes.
func TestAsked(t *testing.T) {
	d := disk.New(7)
	asked := func(down bool, ops, used int) {
		t.Helper()
		for range 2 {
			if d.Down() != down || d.Ops() != ops || d.Used() != used || d.Room() != 7 {
				t.Errorf("down %v, %d operations, %d of %d sectors, want %v, %d, %d of 7", d.Down(), d.Ops(), d.Used(), d.Room(), down, ops, used)
			}
		}
	}
	asked(false, 0, 0)
	must(t, d.Create("a"))
	asked(false, 1, 0)
	must(t, d.Append("a", make([]byte, 17)))
	asked(false, 2, 2)
	must(t, d.Sync("a"))
	asked(false, 3, 2)
	d.Append("a", make([]byte, 100)) // ErrSpace
	asked(false, 4, 2)
	must(t, d.Append("a", make([]byte, 60)))
	asked(false, 5, 5)
	d.Arm(3, nil)
	asked(false, 5, 5)
	d.Create("")
	d.ReadAt("a", 9, 999)
	asked(false, 7, 5)
	d.List()
	asked(true, 8, 2)
	d.Size("a")
	asked(true, 9, 2)
	d.Crash(bits("1"))
	d.Arm(7, nil)
	asked(true, 9, 2)
	d.Restart()
	asked(false, 9, 2)
	must(t, d.Rename("a", "b"), d.Append("b", make([]byte, 60)))
	asked(false, 11, 5)
	d.Crash(bits("0001"))
	asked(true, 11, 5)
	d.Restart()
	must(t, d.Remove("b"))
	asked(false, 12, 0)
}

// TestLookingOn: who looks on may ask for the operations while they are made.
func TestLookingOn(t *testing.T) {
	const many = 20000
	d := disk.New(1)
	done, fell := make(chan struct{}), make(chan bool)
	go func() {
		last := 0
		for {
			select {
			case <-done:
				fell <- d.Ops() < last
				return
			default:
			}
			n := d.Ops()
			if n < last {
				fell <- true
				return
			}
			last = n
		}
	}()
	for range many {
		d.Sync("none")
	}
	close(done)
	if <-fell {
		t.Error("there were fewer operations than before")
	}
	if d.Ops() != many {
		t.Errorf("%d operations, want %d", d.Ops(), many)
	}
}
