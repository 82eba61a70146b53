package shard_test

import (
	"math"
	"slices"
	"testing"

	"cartage/api"
	"cartage/disk"
	"cartage/record"
	"cartage/shard"
)

// newSweep asks for a sweep.
func newSweep(t *testing.T, d *disk.Disk, n, shards int) *shard.Sweep {
	t.Helper()
	s, err := shard.NewSweep(d, n, shards)
	if err != api.OK || s == nil {
		t.Fatalf("NewSweep(%d, %d): %v", n, shards, err)
	}
	return s
}

// next asks a sweep for that window.
func next(t *testing.T, s *shard.Sweep, want []api.Edge) {
	t.Helper()
	if got, is, err := s.Next(); !is || err != api.OK || !slices.Equal(got, want) {
		t.Fatalf("Next: %v, %v, %v, want %v", got, is, err, want)
	}
}

// ended asks a sweep for no more windows, for good, and that the disk is not asked for them again, be it up or down.
func ended(t *testing.T, d *disk.Disk, s *shard.Sweep, want api.Errno) {
	t.Helper()
	ops := 0
	for i := range 5 {
		if got, is, err := s.Next(); got != nil || is || err != want {
			t.Fatalf("Next behind the last one: %v, %v, %v, want none, %v", got, is, err, want)
		}
		switch i {
		case 0:
			ops = d.Ops() // an error comes by an operation, but once
		case 1:
			d.Crash(nil)
		case 2:
			d.Restart()
		}
	}
	if d.Ops() != ops {
		t.Fatalf("the disk is asked again")
	}
}

// windowsOf tells the windows of these shards' edges.
func windowsOf(n int, l [][]api.Edge) [][]api.Edge {
	at := bounds(n, len(l))
	all := make([][]api.Edge, len(l))
	for w := range all {
		for _, edges := range l {
			for _, e := range edges {
				if at[w] <= int(e.From) && int(e.From) < at[w+1] {
					all[w] = append(all[w], e)
				}
			}
		}
	}
	return all
}

// sweeps asks a sweep for all windows of a graph.
func sweeps(t *testing.T, d *disk.Disk, g api.Graph, shards int) {
	t.Helper()
	s := newSweep(t, d, g.N, shards)
	for _, want := range windowsOf(g.N, model(g, shards)) {
		next(t, s, want)
	}
	ended(t, d, s, api.OK)
}

// built tells a disk that has the shards of a graph.
func built(t *testing.T, g api.Graph, shards int) *disk.Disk {
	t.Helper()
	d := disk.New(10 * len(g.Edges))
	must(t, shard.Build(d, g, shards, len(g.Edges)+1))
	return d
}

// TestSweep holds Sweep against a model of the chapter.
func TestSweep(t *testing.T) {
	for _, n := range []int{1, 2, 3, 5, 16, 40} {
		for _, m := range []int{0, 1, 2, 7, 50, 51, 99, 400} {
			for _, shards := range []int{1, 2, 3, 7, 16, 60} {
				g := some(n, m)
				sweeps(t, built(t, g, shards), g, shards)
			}
		}
	}
}

// TestSweepLimits: no vertices, and the most; one shard, and the most.
func TestSweepLimits(t *testing.T) {
	for _, shards := range []int{1, 3, api.MaxShards} {
		sweeps(t, built(t, api.Graph{}, shards), api.Graph{}, shards)
		g := some(api.MaxVertices, 300)
		g.Edges = append(g.Edges, api.Edge{From: api.MaxVertices - 1}, api.Edge{To: api.MaxVertices - 1}, api.Edge{From: api.MaxVertices - 1, To: api.MaxVertices - 1})
		sweeps(t, built(t, g, shards), g, shards)
	}
}

// TestAllOnce is what follows: all windows have all edges, once. (Each edge tells its number by its weight.)
func TestAllOnce(t *testing.T) {
	for _, shards := range []int{1, 2, 5, 30, 64} {
		g := some(50, 700)
		for i := range g.Edges {
			g.Edges[i].W = uint32(i)
		}
		s := newSweep(t, built(t, g, shards), g.N, shards)
		seen := make([]int, len(g.Edges))
		for {
			l, is, err := s.Next()
			must(t, err)
			if !is {
				break
			}
			for _, e := range l {
				if seen[e.W]++; e != g.Edges[e.W] {
					t.Fatalf("%d shards: %v, want %v", shards, e, g.Edges[e.W])
				}
			}
		}
		if slices.Max(seen) != 1 || slices.Min(seen) != 1 {
			t.Errorf("%d shards: an edge is told %d to %d times", shards, slices.Min(seen), slices.Max(seen))
		}
	}
}

// TestReadOnce: the size of each shard is asked once, and each block is read once, when the window comes that needs it.
func TestReadOnce(t *testing.T) {
	for _, n := range []int{3, 10, 64} {
		for _, shards := range []int{1, 2, 7, 20} {
			g := some(n, 900)
			d := built(t, g, shards)
			l := model(g, shards)
			at := bounds(n, shards)
			ops := d.Ops()
			s := newSweep(t, d, n, shards)
			if d.Ops() != ops+shards {
				t.Fatalf("NewSweep takes %d operations, want %d", d.Ops()-ops, shards)
			}
			for w, want := range windowsOf(n, l) {
				next(t, s, want)
				read := shards
				for _, edges := range l {
					read += needed(edges, at[w], at[w+1])
				}
				if w > 0 && at[w] == at[w+1] {
					continue // none is needed
				}
				if d.Ops() != ops+read {
					t.Fatalf("%d vertices, %d shards, window %d: %d operations, want %d", n, shards, w, d.Ops()-ops, read)
				}
			}
			ended(t, d, s, api.OK)
		}
	}
}

// needed tells how many blocks of a shard must be read to know all of its edges out of vertices below end: up to the first
// edge that is none of them. An interval without vertices, from 0 to 0, needs none.
func needed(edges []api.Edge, begin, end int) int {
	if begin == end {
		return 0
	}
	last := slices.IndexFunc(edges, func(e api.Edge) bool { return int(e.From) >= end })
	if last < 0 {
		last = len(edges) - 1
	}
	return (last + record.Many) / record.Many
}

// TestSweepArguments: ErrArg as of Bounds, ahead of all else, and nothing is asked of the disk.
func TestSweepArguments(t *testing.T) {
	d := built(t, some(5, 9), 2)
	down := built(t, some(5, 9), 2)
	down.Crash(nil)
	for _, c := range [][2]int{
		{-1, 2}, {api.MaxVertices + 1, 2}, {math.MinInt, 1}, {math.MaxInt, 1},
		{5, 0}, {5, -1}, {5, api.MaxShards + 1}, {5, math.MaxInt}, {5, math.MinInt}, {0, 0}, {-1, -1},
	} {
		for _, d := range []*disk.Disk{d, down, disk.New(0), nil} {
			ops := 0
			if d != nil {
				ops = d.Ops()
			}
			if s, err := shard.NewSweep(d, c[0], c[1]); s != nil || err != api.ErrArg {
				t.Errorf("NewSweep%v: %v", c, err)
			}
			if d != nil && d.Ops() != ops {
				t.Errorf("NewSweep%v asks the disk", c)
			}
		}
	}
	sweeps(t, d, some(5, 9), 2)
}

// TestSweepEdges: the least and the greatest that Bounds takes.
func TestSweepEdges(t *testing.T) {
	d := disk.New(0)
	for _, shards := range []int{1, api.MaxShards} {
		for _, n := range []int{0, 1, api.MaxVertices} {
			if _, err := shard.NewSweep(d, n, shards); err != api.ErrNone {
				t.Errorf("NewSweep(%d, %d): %v", n, shards, err)
			}
		}
	}
}

// TestSweepOfNone: the first error of a shard's file.
func TestSweepOfNone(t *testing.T) {
	for gone := range 4 {
		g := some(20, 90)
		d := built(t, g, 4)
		must(t, d.Rename(shard.Name(gone), "aside"))
		ops := d.Ops()
		if s, err := shard.NewSweep(d, 20, 4); s != nil || err != api.ErrNone || d.Ops() != ops+gone+1 {
			t.Errorf("without shard %d: %v, %v, %d operations", gone, s, err, d.Ops()-ops)
		}
		// Those behind the shards that are asked for are nothing to it; nor is what their records are.
		must(t, d.Rename("aside", shard.Name(gone)), d.WriteAt("shard.0", 0, []byte("??")))
		if s, err := shard.NewSweep(d, 20, 4); s == nil || err != api.OK {
			t.Errorf("a shard of wrong records: %v, %v", s, err)
		}
		for op := 1; op <= 4; op++ {
			d.Arm(op, nil)
			ops := d.Ops()
			if s, err := shard.NewSweep(d, 20, 4); s != nil || err != api.ErrDown || d.Ops() != ops+op {
				t.Errorf("crash %d: %v, %v, %d operations", op, s, err, d.Ops()-ops)
			}
			d.Restart()
		}
	}
	// An error ahead of another one.
	d := built(t, some(20, 90), 4)
	must(t, d.Remove("shard.2"))
	d.Arm(2, nil)
	if s, err := shard.NewSweep(d, 20, 4); s != nil || err != api.ErrDown {
		t.Errorf("a crash ahead of a shard that is not there: %v, %v", s, err)
	}
}

// prefix tells the edges of a shard's file ahead of its first wrong block, and the error of that one.
func prefix(t *testing.T, d *disk.Disk, i int) ([]api.Edge, api.Errno) {
	t.Helper()
	r, err := record.NewReader(d, shard.Name(i))
	must(t, err)
	var l []api.Edge
	for {
		x, is, err := r.Next()
		if !is {
			return l, err
		}
		l = append(l, api.Edge{From: uint32(x.Key >> 32), To: uint32(x.Key), W: uint32(x.Val)})
	}
}

// sweepsWrong asks a sweep for the windows that can be told of shards that are wrong, and for the first error behind them:
// that of the first shard of which more edges are needed than can be read.
func sweepsWrong(t *testing.T, d *disk.Disk, n, shards int) {
	t.Helper()
	l, errs := make([][]api.Edge, shards), make([]api.Errno, shards)
	for i := range shards {
		l[i], errs[i] = prefix(t, d, i)
	}
	s := newSweep(t, d, n, shards)
	at := bounds(n, shards)
	for w, want := range windowsOf(n, l) {
		for i := range shards {
			enough := errs[i] == api.OK || at[w] == at[w+1] || slices.ContainsFunc(l[i], func(e api.Edge) bool { return int(e.From) >= at[w+1] })
			if !enough {
				ended(t, d, s, errs[i])
				return
			}
		}
		next(t, s, want)
	}
	ended(t, d, s, api.OK)
}

// TestSweepOfWrong: shards of which a byte is another one, or that are cut off, or that go on too far.
func TestSweepOfWrong(t *testing.T) {
	g := some(12, 420)
	for _, shards := range []int{1, 2, 3, 30} {
		d := built(t, g, shards)
		was := files(t, d)
		for i := range shards {
			name := shard.Name(i)
			b := []byte(was[name])
			again := func() { must(t, d.Remove(name), d.Create(name), d.Append(name, b), d.Sync(name)) }
			for at := 0; at < len(b); at += 97 {
				must(t, d.WriteAt(name, at, []byte{b[at] ^ 1}), d.Sync(name))
				sweepsWrong(t, d, g.N, shards)
				again()
				must(t, d.Remove(name), d.Create(name), d.Append(name, b[:at]), d.Sync(name))
				sweepsWrong(t, d, g.N, shards)
				again()
			}
			must(t, d.Append(name, []byte("more")), d.Sync(name))
			sweepsWrong(t, d, g.N, shards)
			again()
		}
		sweeps(t, d, g, shards)
	}
}

// TestFirstError: of two shards that are wrong it is that of the first one, if both are needed at once.
func TestFirstError(t *testing.T) {
	g := some(12, 90)
	d := built(t, g, 3)
	size, err := d.Size("shard.1")
	must(t, err, d.WriteAt("shard.1", size-1, []byte{1, 2}), d.WriteAt("shard.2", 1, []byte{255}))
	must(t, d.Sync("shard.1"), d.Sync("shard.2"))
	_, one := prefix(t, d, 1)
	_, two := prefix(t, d, 2)
	if one == two || one == api.OK || two == api.OK {
		t.Fatalf("errors %v, %v", one, two)
	}
	ended(t, d, newSweep(t, d, 12, 3), one)
	must(t, d.Rename("shard.1", "aside"), d.Rename("shard.2", "shard.1"), d.Rename("aside", "shard.2"))
	ended(t, d, newSweep(t, d, 12, 3), two)
}

// TestSweepCrash: the disk goes down ahead of each operation of a sweep; windows that need none are told all the same.
func TestSweepCrash(t *testing.T) {
	g := some(15, 500)
	for _, shards := range []int{1, 2, 5, 40} {
		d := built(t, g, shards)
		want := windowsOf(g.N, model(g, shards))
		for op := 1; ; op++ {
			s := newSweep(t, d, g.N, shards)
			d.Arm(op, nil)
			w := 0
			for ; w < len(want); w++ {
				got, is, err := s.Next()
				if err == api.ErrDown {
					break
				}
				if !is || err != api.OK || !slices.Equal(got, want[w]) {
					t.Fatalf("crash %d, window %d: %v, %v", op, w, is, err)
				}
			}
			if w == len(want) {
				d.Arm(0, nil)
				break
			}
			if !d.Down() {
				t.Fatalf("crash %d: it is up", op)
			}
			ended(t, d, s, api.ErrDown)
			d.Restart()
			sweeps(t, d, g, shards)
		}
	}
}

// TestSideBySide is R3: two sweeps have nothing to do with each other, be they of one disk or of two.
func TestSideBySide(t *testing.T) {
	g, h := some(30, 400), some(9, 300)
	d, e := built(t, g, 5), built(t, h, 5)
	of, oh := windowsOf(g.N, model(g, 5)), windowsOf(h.N, model(h, 5))
	a, b, c := newSweep(t, d, g.N, 5), newSweep(t, d, g.N, 5), newSweep(t, e, h.N, 5)
	next(t, a, of[0])
	next(t, a, of[1])
	next(t, b, of[0])
	next(t, c, oh[0])
	for i := range 3 {
		next(t, a, of[2+i])
		next(t, b, of[1+i])
		next(t, c, oh[1+i])
	}
	e.Crash(nil)
	ended(t, d, a, api.OK)
	next(t, b, of[4])
	ended(t, d, b, api.OK)
}
