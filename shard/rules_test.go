package shard_test

import (
	"math"
	"reflect"
	"slices"
	"testing"

	"cartage/api"
	"cartage/disk"
	"cartage/shard"
)

// spoil writes over edges, and over the room behind them.
func spoil(l []api.Edge) {
	l = l[:cap(l)]
	for i := range l {
		l[i] = api.Edge{From: 99, To: 99, W: 99}
	}
}

// TestHandedIn is R1: a graph stays as it was, and the room behind its edges, also if Build answers an error; and it is not kept.
func TestHandedIn(t *testing.T) {
	for _, m := range []int{0, 1, 60} {
		whole := some(12, m+60).Edges
		was := slices.Clone(whole)
		g := api.Graph{N: 12, Edges: whole[:m]}
		d := disk.New(10 * m)
		for _, budget := range []int{0, 7, 7} { // one that may not be, all well, and shards that there are
			for _, d := range []*disk.Disk{d, disk.New(m / 2)} {
				shard.Build(d, g, 3, budget)
				if !slices.Equal(whole, was) {
					t.Fatalf("%d edges, budget %d: they are changed", m, budget)
				}
			}
		}
		s := newSweep(t, d, 12, 3)
		spoil(whole)
		for i, l := range model(api.Graph{N: 12, Edges: was[:m]}, 3) {
			reads(t, d, i, l)
		}
		for _, l := range windowsOf(12, model(api.Graph{N: 12, Edges: was[:m]}, 3)) {
			next(t, s, l)
		}
	}
}

// TestAnswersAreTheCallers is R1: what Read and Next answer shares nothing with what they answer else, nor with the files.
func TestAnswersAreTheCallers(t *testing.T) {
	g := some(12, 300)
	d := built(t, g, 3)
	was := files(t, d)
	first, err := shard.Read(d, 1)
	must(t, err)
	second, err := shard.Read(d, 1)
	must(t, err)
	spoil(second)
	if !slices.Equal(first, model(g, 3)[1]) {
		t.Errorf("two answers of Read share their edges")
	}
	a, b := newSweep(t, d, 12, 3), newSweep(t, d, 12, 3)
	var got [][]api.Edge
	for range 3 {
		l, _, err := a.Next()
		must(t, err)
		got = append(got, l)
		l, _, err = b.Next()
		must(t, err)
		spoil(l)
	}
	for w, want := range windowsOf(12, model(g, 3)) {
		if !slices.Equal(got[w], want) {
			t.Errorf("window %d shares its edges", w)
		}
		spoil(got[w])
	}
	sweeps(t, d, g, 3)
	has(t, d, was)
}

// TestNoDisk is R2: no disk is an argument that may not be, and one that was not made by New has no room.
func TestNoDisk(t *testing.T) {
	for _, g := range []api.Graph{{}, {N: 3}, some(5, 9)} {
		if err := shard.Build(nil, g, 2, 1); err != api.ErrArg {
			t.Errorf("Build: %v", err)
		}
		if err := shard.Build(&disk.Disk{}, g, 2, 1); err != api.OK && (len(g.Edges) == 0 || err != api.ErrSpace) {
			t.Errorf("Build on a zero disk: %v", err)
		}
	}
	for want, d := range map[api.Errno]*disk.Disk{api.ErrArg: nil, api.ErrNone: {}} {
		if l, err := shard.Read(d, 0); l != nil || err != want {
			t.Errorf("Read: %v, %v, want %v", l, err, want)
		}
		if s, err := shard.NewSweep(d, 3, 2); s != nil || err != want {
			t.Errorf("NewSweep: %v, %v, want %v", s, err, want)
		}
	}
	// Behind an error there is no sweep, and still no call panics.
	var none *shard.Sweep
	ended(t, disk.New(0), none, api.ErrState)
	ended(t, disk.New(0), &shard.Sweep{}, api.OK)
}

// TestWhatever is R2 and R5: whatever is handed in, on disks that are whatever they are, each call answers, and nothing but zero
// values beside an error.
func TestWhatever(t *testing.T) {
	numbers := []int{math.MinInt, -1, 0, 1, 1, 2, 2, 3, 5, 9, 40, api.MaxShards, api.MaxShards + 1, math.MaxInt}
	x := dice(8)
	number := func() int { return numbers[x.roll(len(numbers))] }
	for range 400 {
		d := disk.New(x.roll(600))
		var all []*shard.Sweep
		for range 30 {
			g := x.graph(1+x.roll(20), x.roll(60))
			g.N += x.roll(3) - 1
			name := shard.Name(x.roll(5))
			switch x.roll(8) {
			case 0:
				shard.Build(d, g, number(), number())
			case 1:
				if l, err := shard.Read(d, number()); err != api.OK && l != nil {
					t.Fatalf("Read: %v, %v", l, err)
				}
			case 2:
				s, err := shard.NewSweep(d, number(), number())
				if (s != nil) != (err == api.OK) {
					t.Fatalf("NewSweep: %v, %v", s, err)
				}
				all = append(all, s)
			case 3:
				d.Remove(name)
			case 4:
				d.Arm(x.roll(60), []bool{true, false, true})
			case 5:
				d.WriteAt(name, x.roll(400), []byte{byte(x.roll(256))})
			default:
				for _, s := range all {
					if l, is, err := s.Next(); !is && l != nil || is && err != api.OK {
						t.Fatalf("Next: %v, %v, %v", l, is, err)
					}
				}
			}
			if x.roll(3) == 0 {
				d.Restart()
			}
		}
	}
}

// TestApart is R3: shards of two disks have nothing to do with each other.
func TestApart(t *testing.T) {
	g, h := some(20, 90), some(9, 130)
	d, e := built(t, g, 3), built(t, h, 2)
	builds(t, disk.New(1300), h, 3, 4)
	d.Crash(nil)
	sweeps(t, e, h, 2)
	d.Restart()
	e.Crash(nil)
	sweeps(t, d, g, 3)
}

// TestSameAnswers is R4: the same calls have the same answers, and do the same, one operation behind the other.
func TestSameAnswers(t *testing.T) {
	for _, budget := range []int{3, 20, 100} {
		g := some(12, 90)
		if !reflect.DeepEqual(watch(t, g, 4, budget), watch(t, g, 4, budget)) {
			t.Errorf("budget %d: the same calls do other things", budget)
		}
	}
}
