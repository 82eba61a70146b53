package shard_test

import (
	"math"
	"regexp"
	"slices"
	"strings"
	"testing"

	"cartage/api"
	"cartage/disk"
	"cartage/shard"
)

// onTheWay tells whether a name is one of a file on the way.
var onTheWay = regexp.MustCompile(`^(part|run)\.`).MatchString

// refused asks Build for that error, and that the files are as they were.
func refused(t *testing.T, d *disk.Disk, g api.Graph, shards, budget int, want api.Errno) {
	t.Helper()
	was := files(t, d)
	if err := shard.Build(d, g, shards, budget); err != want {
		t.Fatalf("%d vertices, %d edges, %d shards, budget %d: %v, want %v", g.N, len(g.Edges), shards, budget, err, want)
	}
	has(t, d, was)
}

// TestArguments: a graph, a number of shards or a budget that may not be, ahead of all else, and nothing is done.
func TestArguments(t *testing.T) {
	right, loop := some(5, 9), api.Edge{}
	graphs := []api.Graph{
		{N: -1}, {N: math.MinInt}, {N: math.MaxInt}, {N: api.MaxVertices + 1}, {N: 0, Edges: []api.Edge{loop}},
		{N: 3, Edges: []api.Edge{loop, {From: 3}}}, {N: 3, Edges: []api.Edge{loop, {To: 3}}}, {N: 3, Edges: []api.Edge{{To: math.MaxUint32}}},
		{N: 3, Edges: make([]api.Edge, api.MaxEdges+1)},
	}
	type call struct {
		g              api.Graph
		shards, budget int
	}
	var calls []call
	for _, g := range graphs {
		calls = append(calls, call{g, 1, 1}, call{g, 0, 0})
	}
	for _, wrong := range []int{0, -1, math.MinInt} {
		calls = append(calls, call{right, wrong, 1}, call{right, 1, wrong}, call{right, wrong, wrong})
	}
	for _, wrong := range []int{api.MaxShards + 1, math.MaxInt} {
		calls = append(calls, call{right, wrong, 1}, call{api.Graph{}, wrong, 1})
	}
	for _, c := range calls {
		up, there, down := disk.New(1000), built(t, right, 1), disk.New(1000)
		down.Crash(nil)
		for i, d := range []*disk.Disk{up, there, down} {
			ops, used := d.Ops(), d.Used()
			if err := shard.Build(d, c.g, c.shards, c.budget); err != api.ErrArg || d.Ops() != ops || d.Used() != used {
				t.Errorf("disk %d, %d vertices, %d edges, %d shards, budget %d: %v, %d operations", i, c.g.N, len(c.g.Edges), c.shards, c.budget, err, d.Ops()-ops)
			}
		}
	}
	builds(t, disk.New(90), right, 1, math.MaxInt)
	builds(t, disk.New(90), right, api.MaxShards, 1)
}

// TestIs: a shard that is there already stays, and so does all else; but nothing stays of what was made.
func TestIs(t *testing.T) {
	for _, shards := range []int{1, 2, 5, 30} {
		for _, m := range []int{0, 1, 60} {
			for _, budget := range []int{1, 7, 100} {
				for there := range shards {
					d := withOthers(t, 10*m+2, shards)
					must(t, d.Create(shard.Name(there)), d.Append(shard.Name(there), []byte("one that was there")))
					refused(t, d, some(20, m), shards, budget, api.ErrIs)
					must(t, d.Remove(shard.Name(there)))
					builds(t, d, some(20, m), shards, budget)
					refused(t, d, some(20, m), shards, budget, api.ErrIs)
				}
			}
		}
	}
}

// TestNoRoom: with less room than is needed nothing is left but what was there; with 10 sectors for each edge there is enough.
func TestNoRoom(t *testing.T) {
	for _, m := range []int{0, 1, 2, 3, 9, 52} {
		for _, shards := range []int{1, 2, 5} {
			for _, budget := range []int{1, 2, 10, 100} {
				g := some(9, m)
				short := 0
				for room := 0; room <= 10*m; room++ {
					d := withOthers(t, room, shards)
					was := files(t, d)
					if err := shard.Build(d, g, shards, budget); err == api.ErrSpace {
						has(t, d, was)
						short++
						continue
					}
					d = withOthers(t, room, shards)
					builds(t, d, g, shards, budget)
				}
				d := withOthers(t, 10*m, shards)
				builds(t, d, g, shards, budget)
				if short < m {
					t.Errorf("%d edges need no more than %d sectors", m, short)
				}
			}
		}
	}
}

// TestRoomForMany: with 10 sectors for each edge there is enough, however the edges are shared out.
func TestRoomForMany(t *testing.T) {
	for m := range 130 {
		spread, heap := some(m+1, m), some(m+1, m)
		for i := range spread.Edges {
			spread.Edges[i].To = uint32(i) // of as many shards each has one
			heap.Edges[i].To = 0           // one shard has all
		}
		for _, g := range []api.Graph{some(5, m), spread, heap} {
			for _, shards := range []int{1, 3, m + 1, 200} {
				for _, budget := range []int{1, 2, 13, 50} {
					d := disk.New(10 * m)
					if err := shard.Build(d, g, shards, budget); err != api.OK {
						t.Fatalf("%d edges, %d shards, budget %d: %v", m, shards, budget, err)
					}
				}
			}
		}
	}
}

// TestOperations: no more than the engine (19) may make of them.
func TestOperations(t *testing.T) {
	for _, m := range []int{0, 1, 2, 17, 130, 1000} {
		for _, shards := range []int{1, 2, 30, 1000} {
			for _, budget := range []int{1, 2, 49} {
				d := disk.New(10 * m)
				must(t, shard.Build(d, some(70, m), shards, budget))
				if d.Ops() > 20*m+40*shards {
					t.Errorf("%d edges, %d shards, budget %d: %d operations", m, shards, budget, d.Ops())
				}
			}
		}
	}
}

// look is what a disk has ahead of an operation.
type look map[string]string

// watch looks on while shards are made: ahead of each operation, and behind the last one. (A disk that crashes ahead of it shows
// what it has, if all of that stays.)
func watch(t *testing.T, g api.Graph, shards, budget int) []look {
	t.Helper()
	var seen []look
	for op := 1; ; op++ {
		d := withOthers(t, 10*len(g.Edges), shards)
		d.Arm(op, slices.Repeat([]bool{true}, 10000))
		err := shard.Build(d, g, shards, budget)
		d.Arm(0, nil)
		d.Restart()
		seen = append(seen, files(t, d))
		if err == api.OK {
			return seen
		}
		if err != api.ErrDown {
			t.Fatalf("crash %d: %v", op, err)
		}
	}
}

// TestOnTheWay: what is made is shards, and files by names that are told; the others stay at all times.
func TestOnTheWay(t *testing.T) {
	for _, budget := range []int{1, 20, 40, 100} {
		d := withOthers(t, 0, 3)
		other := files(t, d)
		names := []string{"shard.0", "shard.1", "shard.2"}
		for op, seen := range watch(t, some(12, 80), 3, budget) {
			for name, b := range other {
				if seen[name] != b {
					t.Fatalf("operation %d: %s is another one", op, name)
				}
			}
			for name := range seen {
				if _, is := other[name]; !is && !onTheWay(name) && !slices.Contains(names, name) {
					t.Fatalf("operation %d: %s is made", op, name)
				}
			}
		}
	}
}

// TestBudget: no row on the way to a shard has more edges than the budget, if a few rows are enough; and there is none if all
// edges of the shard are within it.
func TestBudget(t *testing.T) {
	g := some(12, 61)
	for _, budget := range []int{31, 45, 60, 61, 62} {
		rows := map[string]bool{}
		for _, seen := range watch(t, g, 1, budget) {
			for name, b := range seen {
				if strings.HasPrefix(name, "run.") {
					rows[name] = true
					if got := (len(b) - 6*((len(b)+805)/806)) / 16; got > budget {
						t.Errorf("budget %d: a row of %d edges", budget, got)
					}
				}
			}
		}
		if want := budget < 61; want != (len(rows) == 2) || !want && len(rows) != 0 {
			t.Errorf("budget %d: %d rows", budget, len(rows))
		}
	}
}

// TestCrash: ahead of each operation; behind it there is nothing on the disk but what Build makes, and what was there, and with
// the one gone the shards can be made.
func TestCrash(t *testing.T) {
	g := some(12, 70)
	for _, shards := range []int{1, 4} {
		for _, budget := range []int{5, 10, 100} {
			for _, keep := range [][]bool{nil, {true}, {false, true, true}, slices.Repeat([]bool{true}, 10000)} {
				for op := 1; ; op++ {
					d := withOthers(t, 700, shards)
					was := files(t, d)
					ops := d.Ops()
					d.Arm(op, keep)
					err := shard.Build(d, g, shards, budget)
					if err == api.OK {
						break
					}
					if err != api.ErrDown || !d.Down() || d.Ops() != ops+op {
						t.Fatalf("%d shards, budget %d, crash %d: %v, %d operations", shards, budget, op, err, d.Ops()-ops)
					}
					d.Restart()
					goesOn(t, d, was, g, shards, budget)
				}
			}
		}
	}
}

// goesOn asks of a disk behind a crash that there is nothing else on it than what Build makes, and that it can be done again
// behind the removal of that.
func goesOn(t *testing.T, d *disk.Disk, was map[string]string, g api.Graph, shards, budget int) {
	t.Helper()
	for name := range files(t, d) {
		if _, is := was[name]; is {
			continue
		}
		if !onTheWay(name) && !strings.HasPrefix(name, "shard.") {
			t.Fatalf("%s is left", name)
		}
		must(t, d.Remove(name))
	}
	has(t, d, was)
	builds(t, d, g, shards, budget)
}

// TestCrashWithoutRoom: a crash that comes when what was made is removed is not the first error.
func TestCrashWithoutRoom(t *testing.T) {
	g := some(12, 60)
	for i := range g.Edges[:50] {
		g.Edges[i].To = 11
	}
	// There is room for the second shard, but not for the third one, that is the greatest.
	room := 0
	for !slices.ContainsFunc(watchShort(t, room, g), func(seen look) bool { return seen["shard.1"] != "" }) {
		room++
	}
	whole := disk.New(room)
	if err := shard.Build(whole, g, 3, 7); err != api.ErrSpace {
		t.Fatalf("room %d: %v", room, err)
	}
	was := api.ErrDown
	for op := 1; op <= whole.Ops(); op++ {
		d := disk.New(room)
		d.Arm(op, nil)
		err := shard.Build(d, g, 3, 7)
		if err != api.ErrDown && err != api.ErrSpace || was == api.ErrSpace && err != was {
			t.Fatalf("crash %d: %v behind %v", op, err, was)
		}
		was = err
	}
	if was != api.ErrSpace {
		t.Errorf("nothing was removed")
	}
}

// watchShort looks on while three shards are made in too little room.
func watchShort(t *testing.T, room int, g api.Graph) []look {
	t.Helper()
	whole := disk.New(room)
	if err := shard.Build(whole, g, 3, 7); err != api.ErrSpace {
		t.Fatalf("room %d: %v", room, err)
	}
	var seen []look
	for op := 1; op <= whole.Ops(); op++ {
		d := disk.New(room)
		d.Arm(op, slices.Repeat([]bool{true}, 10000))
		shard.Build(d, g, 3, 7)
		d.Arm(0, nil)
		d.Restart()
		seen = append(seen, files(t, d))
	}
	return seen
}

// TestNames: files that are there by names as they are made on the way stay.
func TestNames(t *testing.T) {
	for _, budget := range []int{1, 9, 100} {
		d := disk.New(700)
		for _, name := range []string{"part.0", "part.1", "part.3", "run.1", "run.2", "part.x", "run.", "part."} {
			must(t, d.Create(name), d.Append(name, []byte("x")))
		}
		g := some(12, 60)
		builds(t, d, g, 4, budget)
		refused(t, d, g, 4, budget, api.ErrIs)
	}
}
