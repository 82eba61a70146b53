package shard_test

import (
	"cmp"
	"maps"
	"math"
	"slices"
	"testing"

	"cartage/api"
	"cartage/disk"
	"cartage/record"
	"cartage/shard"
)

// dice tells numbers; the same ones each time the test is run.
type dice uint64

func (d *dice) roll(n int) int {
	*d = *d*6364136223846793005 + 1442695040888963407
	return int(uint64(*d>>33) % uint64(n))
}

// graph tells one of n vertices and m edges, in any order, some of them alike, and some of the greatest weights.
func (d *dice) graph(n, m int) api.Graph {
	g := api.Graph{N: n, Edges: make([]api.Edge, m)}
	for i := range g.Edges {
		e := api.Edge{From: uint32(d.roll(n)), To: uint32(d.roll(n)), W: uint32(d.roll(4))}
		if d.roll(8) == 0 {
			e.W = math.MaxUint32 - e.W
		}
		if i > 0 && d.roll(6) == 0 {
			e = g.Edges[d.roll(i)]
		}
		g.Edges[i] = e
	}
	return g
}

// some tells a graph of n vertices and m edges.
func some(n, m int) api.Graph {
	d := dice(n*1000 + m)
	return d.graph(n, m)
}

// must asks for OK.
func must(t *testing.T, errs ...api.Errno) {
	t.Helper()
	for i, err := range errs {
		if err != api.OK {
			t.Fatalf("call %d: %v", i, err)
		}
	}
}

// bounds tells where intervals begin and end, counted up without a product.
func bounds(n, shards int) []int {
	l := []int{0}
	for at, rest := 0, 0; len(l) <= shards; {
		for rest += n; rest >= shards; rest -= shards {
			at++
		}
		l = append(l, at)
	}
	return l
}

// model tells the edges of each shard.
func model(g api.Graph, shards int) [][]api.Edge {
	at := bounds(g.N, shards)
	all := make([][]api.Edge, shards)
	for _, e := range g.Edges {
		for i := range all {
			if at[i] <= int(e.To) && int(e.To) < at[i+1] {
				all[i] = append(all[i], e)
			}
		}
	}
	for _, l := range all {
		slices.SortFunc(l, func(a, b api.Edge) int {
			return cmp.Or(cmp.Compare(a.From, b.From), cmp.Compare(a.To, b.To), cmp.Compare(a.W, b.W))
		})
	}
	return all
}

// bytesOf tells the bytes of a shard's file.
func bytesOf(t *testing.T, l []api.Edge) string {
	t.Helper()
	d := disk.New(3*len(l) + 1)
	var recs []api.Rec
	for _, e := range l {
		recs = append(recs, api.Rec{Key: uint64(e.From)*(1<<32) + uint64(e.To), Val: uint64(e.W)})
	}
	must(t, record.Write(d, "f", recs))
	return files(t, d)["f"]
}

// files tells all files of a disk that is up, as they are now.
func files(t *testing.T, d *disk.Disk) map[string]string {
	t.Helper()
	names, err := d.List()
	must(t, err)
	all := map[string]string{}
	for _, name := range names {
		size, err := d.Size(name)
		must(t, err)
		b, err := d.ReadAt(name, 0, size)
		must(t, err)
		all[name] = string(b)
	}
	return all
}

// has asks for these files, and no others.
func has(t *testing.T, d *disk.Disk, want map[string]string) {
	t.Helper()
	if got := files(t, d); !maps.Equal(got, want) {
		t.Fatalf("files %.60q, want %.60q", got, want)
	}
}

// others tells files whose names are none of those that Build has of so many shards, though like them.
func others(t *testing.T, d *disk.Disk, shards int) {
	t.Helper()
	for _, name := range []string{"other", "shard", "shard.", "shard.00", "shard.-1", "part", "run", "parts.0", "apart.0", shard.Name(shards)} {
		must(t, d.Create(name), d.Append(name, []byte("o")), d.Sync(name))
	}
}

// withOthers tells a disk of this room, beside that of the other files that it has.
func withOthers(t *testing.T, room, shards int) *disk.Disk {
	t.Helper()
	d := disk.New(room + 10)
	others(t, d, shards)
	return d
}

// builds asks Build to do what the chapter says, with room enough.
func builds(t *testing.T, d *disk.Disk, g api.Graph, shards, budget int) {
	t.Helper()
	want := files(t, d)
	if err := shard.Build(d, g, shards, budget); err != api.OK {
		t.Fatalf("%d vertices, %d edges, %d shards, budget %d: %v", g.N, len(g.Edges), shards, budget, err)
	}
	for i, l := range model(g, shards) {
		want[shard.Name(i)] = bytesOf(t, l)
		reads(t, d, i, l)
	}
	has(t, d, want)
}

// reads asks for the edges of a shard.
func reads(t *testing.T, d *disk.Disk, i int, want []api.Edge) {
	t.Helper()
	if got, err := shard.Read(d, i); err != api.OK || !slices.Equal(got, want) {
		t.Fatalf("shard %d: %d edges, %v, want %d", i, len(got), err, len(want))
	}
}

func TestName(t *testing.T) {
	for i, want := range map[int]string{
		0: "shard.0", 1: "shard.1", 9: "shard.9", 10: "shard.10", 12: "shard.12", 4095: "shard.4095", -1: "shard.-1", 1000000: "shard.1000000",
		math.MaxInt: "shard.9223372036854775807", math.MinInt: "shard.-9223372036854775808",
	} {
		if got := shard.Name(i); got != want {
			t.Errorf("Name(%d): %q, want %q", i, got, want)
		}
	}
}

// TestExample is the chapter's.
func TestExample(t *testing.T) {
	l := []api.Edge{{From: 1, To: 0, W: 7}}
	d := disk.New(10)
	must(t, shard.Build(d, api.Graph{N: 2, Edges: l}, 2, 1))
	reads(t, d, 0, l)
	reads(t, d, 1, nil)
	has(t, d, map[string]string{"shard.0": bytesOf(t, l), "shard.1": ""})
	s := newSweep(t, d, 2, 2)
	next(t, s, nil)
	next(t, s, l)
	ended(t, d, s, api.OK)
}

// TestOrder: by From, then To, then W, each as a number.
func TestOrder(t *testing.T) {
	l := []api.Edge{
		{From: 1, To: 3, W: 1}, {From: 1, To: 3, W: 256}, {From: 1, To: 3, W: 1 << 31}, {From: 1, To: 3, W: math.MaxUint32},
		{From: 2, To: 300, W: 0}, {From: 2, To: 301, W: 0}, {From: 256, To: 0, W: 9}, {From: 256, To: 1, W: 0}, {From: 257, To: 0, W: 0},
	}
	mixed := slices.Clone(l)
	slices.Reverse(mixed)
	mixed[0], mixed[5] = mixed[5], mixed[0]
	for _, budget := range []int{1, 2, 4, 9, 100} {
		d := disk.New(10 * len(l))
		must(t, shard.Build(d, api.Graph{N: 400, Edges: mixed}, 1, budget))
		reads(t, d, 0, l)
	}
}

// TestBuild holds Build against a model of the chapter.
func TestBuild(t *testing.T) {
	for _, n := range []int{1, 2, 3, 5, 16, 40} {
		for _, m := range []int{0, 1, 2, 7, 49, 50, 51, 130} {
			for _, shards := range []int{1, 2, 3, 7, 16, 60} {
				for _, budget := range []int{1, 2, 17, 50, 1000} {
					builds(t, withOthers(t, 10*m, shards), some(n, m), shards, budget)
				}
			}
		}
	}
}

// TestNoVertices: a graph without them has shards, too.
func TestNoVertices(t *testing.T) {
	for _, shards := range []int{1, 2, 4096} {
		builds(t, withOthers(t, 0, shards), api.Graph{}, shards, 1)
		builds(t, withOthers(t, 0, shards), api.Graph{Edges: []api.Edge{}}, shards, math.MaxInt)
	}
}

// TestSameEdge: an edge is in its shard as often as it is told.
func TestSameEdge(t *testing.T) {
	for _, m := range []int{2, 50, 51, 200} {
		for _, budget := range []int{1, 3, 300} {
			for _, shards := range []int{1, 2, 3} {
				l := slices.Repeat([]api.Edge{{From: 2, To: 1, W: 5}}, m)
				builds(t, disk.New(10*m), api.Graph{N: 3, Edges: l}, shards, budget)
				l = append(l, api.Edge{From: 2, To: 1, W: 4}, api.Edge{From: 2, To: 0, W: 5})
				builds(t, disk.New(10*len(l)), api.Graph{N: 3, Edges: l}, shards, budget)
			}
		}
	}
}

// TestLimits: the most vertices, by few shards and by the most.
func TestLimits(t *testing.T) {
	n := api.MaxVertices
	g := api.Graph{N: n}
	for _, v := range []int{0, 1, 255, 256, 257, 1 << 19, 1<<19 - 1, n - 257, n - 256, n - 2, n - 1} {
		g.Edges = append(g.Edges,
			api.Edge{From: uint32(v), To: uint32(n - 1), W: math.MaxUint32}, api.Edge{From: uint32(n - 1), To: uint32(v)},
			api.Edge{From: 0, To: uint32(v), W: 1}, api.Edge{From: uint32(v), To: 0, W: uint32(v)})
	}
	for _, shards := range []int{1, 2, 3, 4095, api.MaxShards} {
		builds(t, disk.New(10*len(g.Edges)), g, shards, 5)
	}
}

// TestManyEdges: the most edges, by few shards and by the most.
func TestManyEdges(t *testing.T) {
	m := api.MaxEdges
	x := dice(1)
	g := x.graph(1000, m)
	for shards, budget := range map[int]int{3: 200000, api.MaxShards: 100} {
		d := disk.New(10 * m)
		must(t, shard.Build(d, g, shards, budget))
		got := 0
		for i := range shards {
			l, err := shard.Read(d, i)
			must(t, err)
			got += len(l)
			if !slices.IsSortedFunc(l, func(a, b api.Edge) int { return cmp.Compare(a.From, b.From) }) {
				t.Fatalf("shard %d of %d is not sorted", i, shards)
			}
		}
		if got != m {
			t.Errorf("%d shards have %d edges", shards, got)
		}
	}
}

// TestLasts: what Build made lasts, whatever crash comes behind it.
func TestLasts(t *testing.T) {
	g := some(30, 120)
	for _, budget := range []int{1, 30, 500} {
		d := disk.New(1200)
		must(t, shard.Build(d, g, 4, budget))
		want := files(t, d)
		d.Crash(nil)
		d.Restart()
		has(t, d, want)
	}
}

// TestReadErrors: the error of a shard's file, as Read (9) has it.
func TestReadErrors(t *testing.T) {
	g := some(20, 130)
	for at := 0; at < 130*16+3*6; at += 11 {
		for _, change := range []func(d *disk.Disk, b string){
			func(d *disk.Disk, b string) { d.WriteAt("shard.0", at, []byte{b[at] ^ 1}) },
			func(d *disk.Disk, b string) {
				must(t, d.Remove("shard.0"), d.Create("shard.0"), d.Append("shard.0", []byte(b[:at])))
			},
			func(d *disk.Disk, b string) { d.Append("shard.0", []byte(b[at:])) },
		} {
			d := disk.New(10000)
			must(t, shard.Build(d, g, 1, 50))
			change(d, files(t, d)["shard.0"])
			l, want := record.Read(d, "shard.0")
			got, err := shard.Read(d, 0)
			if err != want || want != api.OK && got != nil || len(got) != len(l) {
				t.Fatalf("byte %d: %d edges, %v, want %d, %v", at, len(got), err, len(l), want)
			}
		}
	}
}

// TestReadNone: no such shard, or no disk that is up.
func TestReadNone(t *testing.T) {
	d := disk.New(1000)
	must(t, shard.Build(d, some(20, 50), 3, 50), d.Remove("shard.1"))
	for _, i := range []int{1, 3, -1, math.MaxInt, math.MinInt} {
		if l, err := shard.Read(d, i); l != nil || err != api.ErrNone {
			t.Errorf("shard %d: %v, %v", i, l, err)
		}
	}
	ops := d.Ops()
	for op := 1; ; op++ {
		d.Arm(op, nil)
		l, err := shard.Read(d, 2)
		if err == api.OK {
			break
		}
		if l != nil || err != api.ErrDown || d.Ops() != ops+op {
			t.Fatalf("crash %d: %d edges, %v", op, len(l), err)
		}
		d.Restart()
		ops = d.Ops()
	}
	d.Arm(0, nil)
	d.Crash(nil)
	if l, err := shard.Read(d, 2); l != nil || err != api.ErrDown {
		t.Errorf("down: %v, %v", l, err)
	}
}
