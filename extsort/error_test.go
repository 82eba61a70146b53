package extsort_test

import (
	"maps"
	"math"
	"slices"
	"strings"
	"testing"

	"cartage/api"
	"cartage/disk"
	"cartage/extsort"
	"cartage/record"
)

// TestArguments: a budget, a fan or a how that may not be, ahead of all else, and nothing is done.
func TestArguments(t *testing.T) {
	wrong := []call{
		plain(0, 2, api.Keep), plain(-1, 2, api.Sum), plain(math.MinInt, 2, api.Min),
		plain(1, 1, api.Keep), plain(1, 0, api.Sum), plain(1, -1, api.Min), plain(1, math.MinInt, api.Keep),
		plain(1, 2, -1), plain(1, 2, 3), plain(1, 2, math.MinInt), plain(1, 2, math.MaxInt), plain(0, 0, 9),
	}
	for _, c := range wrong {
		for _, in := range []string{"in", "none", ""} {
			for _, out := range []string{"out", "in", ""} {
				c.in, c.out = in, out
				d := withIn(t, 100, some(9))
				c.refused(t, d, api.ErrArg)
				d.Crash(nil)
				ops := d.Ops()
				if passes, err := c.sort(d); passes != 0 || err != api.ErrArg || d.Ops() != ops {
					t.Errorf("%+v, down: %d, %v, %d operations", c, passes, err, d.Ops()-ops)
				}
			}
		}
	}
}

// TestNoIn: the error of NewReader, ahead of that of out.
func TestNoIn(t *testing.T) {
	for _, out := range []string{"out", "other", "", "none"} {
		for _, in := range []string{"none", "", strings.Repeat("n", 25), "t.1"} {
			call{in, out, "t", 3, 2, api.Keep}.refused(t, withIn(t, 100, some(9)), api.ErrNone)
		}
		d := withIn(t, 100, some(9))
		d.Crash(nil)
		ops := d.Ops()
		if passes, err := (call{"in", out, "t", 3, 2, api.Keep}).sort(d); passes != 0 || err != api.ErrDown || d.Ops() != ops+1 {
			t.Errorf("out %q, down: %d, %v, %d operations", out, passes, err, d.Ops()-ops)
		}
	}
}

// TestNoOut: a file out that is there stays, and one that may not be is not made, whatever in has, and however little room there is.
func TestNoOut(t *testing.T) {
	for _, n := range []int{0, 1, 9, 130} {
		for _, budget := range []int{1, 9, 200} {
			for out, want := range map[string]api.Errno{"in": api.ErrIs, "other": api.ErrIs, "": api.ErrArg, strings.Repeat("n", 25): api.ErrArg} {
				c := call{"in", out, "t", budget, 2, api.Keep}
				c.refused(t, withIn(t, 10000, some(n)), want)
				c.refused(t, withIn(t, withIn(t, 10000, some(n)).Used(), some(n)), want)
			}
			// A name of 24 bytes may be.
			call{"in", strings.Repeat("n", 24), "t", budget, 2, api.Keep}.sorts(t, withIn(t, 10000, some(n)), some(n))
		}
	}
}

// TestTemp: names on the way that may not be are refused if they are needed, and then nothing is left.
func TestTemp(t *testing.T) {
	l := some(30)
	for size := range 40 {
		for budget, longest := range map[int]int{10: 22, 1: 21, 29: 22, 30: 40} {
			d := withIn(t, 10000, l)
			c := call{"in", "out", strings.Repeat("t", size), budget, 200, api.Keep}
			if size <= longest {
				c.sorts(t, d, l)
			} else {
				c.refused(t, d, api.ErrArg)
			}
		}
	}
}

// TestNoRecords: a file in of which one byte is another one, or that ends too early, or goes on too far.
func TestNoRecords(t *testing.T) {
	l := some(130)
	for at := 0; at < 806*2+486; at += 13 {
		wrong(t, l, func(d *disk.Disk, b []byte) { d.WriteAt("in", at, []byte{b[at] ^ 1}) })
		wrong(t, l, func(d *disk.Disk, b []byte) {
			if at%806 != 0 {
				must(t, d.Remove("in"), d.Create("in"), d.Append("in", b[:at]))
			}
		})
	}
	wrong(t, l, func(d *disk.Disk, b []byte) { d.Append("in", b) })
	wrong(t, l, func(d *disk.Disk, b []byte) { d.Append("in", []byte{0}) })
	wrong(t, nil, func(d *disk.Disk, b []byte) { d.Append("in", []byte("no records")) })
	wrong(t, nil, func(d *disk.Disk, b []byte) { d.Append("in", []byte{0, 0, 0, 0, 0, 0}) })
}

// wrong changes a file of these records, and asks for the error that Read (9) has, of all ways to sort it.
func wrong(t *testing.T, l []api.Rec, change func(d *disk.Disk, b []byte)) {
	t.Helper()
	for _, budget := range []int{1, 7, 50, 60, 1000} {
		d := withIn(t, 10000, l)
		change(d, []byte(files(t, d)["in"]))
		if _, want := record.Read(d, "in"); want != api.OK {
			plain(budget, 2+budget%3, budget%3).refused(t, d, want)
		}
	}
}

// TestNoRoom: with less room than is needed nothing is left but what was there; with 8 sectors for each record there is enough.
func TestNoRoom(t *testing.T) {
	for _, n := range []int{0, 1, 2, 3, 7, 50, 51, 64} {
		l := some(n)
		for _, c := range []call{plain(1, 2, api.Keep), plain(1, 100, api.Keep), plain(1, 3, api.Sum), plain(2, 2, api.Min), plain(7, 2, api.Keep), plain(50, 2, api.Keep), plain(100, 2, api.Sum)} {
			// The room of the other file comes on top.
			for room := withIn(t, 10000, l).Used(); room <= 8*n+1; room++ {
				d := withIn(t, room, l)
				fits := d.Used()+sectors(model(l, c.how)) <= room
				was := files(t, d)
				passes, err := c.sort(d)
				if err == api.OK && fits {
					reads(t, d, "out", model(l, c.how))
					was["out"] = files(t, d)["out"]
				} else if err != api.ErrSpace || passes != 0 || room == 8*n+1 {
					t.Fatalf("%d records, room %d, %+v: %d, %v", n, room, c, passes, err)
				}
				has(t, d, was)
			}
		}
	}
}

// sectors tells how many a file of records needs.
func sectors(l []api.Rec) int {
	d := disk.New(10000)
	record.Write(d, "f", l)
	return d.Used()
}

// TestRoomForMany: with 8 sectors for each record there is room enough, in's own among them, for all budgets and fans.
func TestRoomForMany(t *testing.T) {
	for n := range 140 {
		l := some(n)
		for _, budget := range []int{1, 2, 3, 13, 49, 50, 51} {
			for _, fan := range []int{2, 3, 10, 1000} {
				d := disk.New(8 * n)
				must(t, record.Write(d, "in", l))
				plain(budget, fan, n%3).sorts(t, d, l)
			}
		}
	}
}

// crashes tells calls to crash in: by one row, by one pass, and by many.
func crashes() []call {
	return []call{plain(200, 2, api.Keep), plain(50, 3, api.Sum), plain(50, 2, api.Min), plain(17, 2, api.Keep), plain(13, 3, api.Keep), plain(30, 8, api.Sum)}
}

// TestCrash: ahead of each operation; in is as it was, and behind Restart it can be sorted.
func TestCrash(t *testing.T) {
	l := some(120)
	for _, c := range crashes() {
		for _, keep := range [][]bool{nil, {true}, {false, true, true}, slices.Repeat([]bool{true}, 10000)} {
			for op := 1; ; op++ {
				d := withIn(t, 10000, l)
				was := files(t, d)
				d.Arm(op, keep)
				passes, err := c.sort(d)
				if err == api.OK {
					break
				}
				if passes != 0 || err != api.ErrDown || !d.Down() {
					t.Fatalf("%+v, crash %d: %d, %v", c, op, passes, err)
				}
				d.Restart()
				goesOn(t, c, d, was, l)
			}
		}
	}
}

// goesOn asks of a disk behind a crash that there is nothing else on it than what Sort makes, and that in can be sorted: by
// other names; by the same ones, if out is gone (rows that a crash has left are not its own); and with all of that gone.
func goesOn(t *testing.T, c call, d *disk.Disk, was map[string]string, l []api.Rec) {
	t.Helper()
	left := files(t, d)
	for name := range was {
		if left[name] != was[name] {
			t.Fatalf("%s is another one", name)
		}
	}
	for name := range left {
		if _, is := was[name]; !is && name != "out" && !onTheWay(name) {
			t.Fatalf("%s is left", name)
		}
	}
	call{"in", "new", "s", c.budget, c.fan, c.how}.sorts(t, d, l)
	if _, is := left["out"]; is {
		c.refused(t, d, api.ErrIs)
		must(t, d.Remove("out"))
	}
	c.sorts(t, d, l)
	for name := range files(t, d) {
		if _, is := was[name]; !is {
			must(t, d.Remove(name))
		}
	}
	c.sorts(t, d, l)
}

// TestCrashWithoutRoom: a crash that comes when what was made is removed is not the first error.
func TestCrashWithoutRoom(t *testing.T) {
	l := some(60)
	c := plain(7, 2, api.Keep)
	// There is room for the rows, but not for all that they are merged to.
	room := withIn(t, 10000, l).Used() + 80
	whole := withIn(t, room, l)
	ops := whole.Ops()
	if passes, err := c.sort(whole); passes != 0 || err != api.ErrSpace {
		t.Fatalf("%d, %v", passes, err)
	}
	ops = whole.Ops() - ops
	was := api.ErrDown
	for op := 1; op <= ops; op++ {
		d := withIn(t, room, l)
		in := files(t, d)["in"]
		d.Arm(op, nil)
		passes, err := c.sort(d)
		if passes != 0 || err != api.ErrDown && err != api.ErrSpace || was == api.ErrSpace && err != was {
			t.Fatalf("crash %d: %d, %v behind %v", op, passes, err, was)
		}
		was = err
		d.Restart()
		if files(t, d)["in"] != in {
			t.Fatalf("crash %d: in is another one", op)
		}
	}
	if was != api.ErrSpace {
		t.Errorf("nothing was removed")
	}
}

// TestOthers: files that are there by names as they are made on the way stay, be they in, out or anybody's.
func TestOthers(t *testing.T) {
	l := some(90)
	for _, c := range []call{
		{"t.1", "out", "t", 7, 3, api.Keep},
		{"in", "t.1", "t", 7, 3, api.Sum},
		{"t.2", "t.4", "t", 7, 3, api.Min},
		{"in", "in.1", "in", 7, 3, api.Keep},
		{"in", ".1", "", 7, 3, api.Keep},
		{"t.1", "t.", "t", 1, 2, api.Keep},
	} {
		for _, n := range []int{0, 6, 7, 8, 90} {
			d := withIn(t, 10000, l[:n])
			must(t, d.Rename("in", c.in), d.Create("t.3"), d.Append("t.3", []byte("x")), d.Sync("t.3"), d.Create("t.07"), d.Create("t.-1"))
			c.sorts(t, d, l[:n])
			must(t, d.Remove(c.out), d.WriteAt(c.in, 0, make([]byte, min(n, 1))))
			if n > 0 {
				c.refused(t, d, api.ErrSum)
			}
		}
	}
}

// TestZeroValues: each answer beside an error is 0 (R5), of disks that there are not, too (R2).
func TestZeroValues(t *testing.T) {
	for _, name := range []string{"", "a", "a.1", strings.Repeat("n", 25)} {
		if passes, err := extsort.Sort(nil, name, name, name, 1, 2, api.Keep); passes != 0 || err != api.ErrArg {
			t.Errorf("no disk: %d, %v", passes, err)
		}
		if passes, err := extsort.Sort(&disk.Disk{}, name, name, name, 1, 2, api.Keep); passes != 0 || err != api.ErrNone {
			t.Errorf("a zero disk: %d, %v", passes, err)
		}
	}
}

// TestWhatever is R2: whatever is handed in, on disks that are whatever they are, Sort answers, and changes but what it may.
func TestWhatever(t *testing.T) {
	x := dice(8)
	names := []string{"", "a", "b", "a.1", "a.2", ".1", strings.Repeat("n", 23), strings.Repeat("n", 25)}
	numbers := []int{math.MinInt, -1, 0, 1, 1, 2, 2, 3, 5, 20, 50, math.MaxInt}
	for range 3000 {
		d := disk.New(x.roll(400))
		for range x.roll(5) {
			record.Write(d, names[x.roll(len(names))], x.recs(x.roll(120), 30))
			d.WriteAt(names[x.roll(len(names))], x.roll(900), []byte("?"))
		}
		was := files(t, d)
		down := x.roll(3) == 0
		if down {
			d.Arm(1+x.roll(60), nil)
		}
		name := func() string { return names[x.roll(len(names))] }
		number := func() int { return numbers[x.roll(len(numbers))] }
		c := call{name(), name(), name(), number(), number(), x.roll(4)}
		passes, err := c.sort(d)
		if err != api.OK && passes != 0 || !down && d.Down() {
			t.Fatalf("%+v: %d, %v", c, passes, err)
		}
		if down {
			continue
		}
		now := files(t, d)
		if _, is := was[c.out]; err == api.OK && !is {
			delete(now, c.out)
		}
		if !maps.Equal(now, was) {
			t.Fatalf("%+v, %v: files %.60q, want %.60q", c, err, now, was)
		}
	}
}
