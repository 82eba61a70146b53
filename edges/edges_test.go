package edges_test

import (
	"bytes"
	"encoding/binary"
	"math"
	"slices"
	"testing"

	"cartage/api"
	"cartage/edges"
)

// edge spells an edge short.
func edge(from, to, w uint32) api.Edge { return api.Edge{From: from, To: to, W: w} }

// graph spells a graph short.
func graph(n int, list ...api.Edge) api.Graph { return api.Graph{N: n, Edges: list} }

// words tells numbers by four bytes each, by a way that is not the program's own.
func words(numbers ...uint32) []byte {
	var b []byte
	for _, x := range numbers {
		b = binary.LittleEndian.AppendUint32(b, x)
	}
	return b
}

// many has so many edges over n vertices, no two neighbours alike.
func many(n, count int) api.Graph {
	g := api.Graph{N: n}
	for i := range count {
		g.Edges = append(g.Edges, edge(uint32(i*7%n), uint32(i*i%n), uint32(i)*2654435761))
	}
	return g
}

func rightOnes() []api.Graph {
	return []api.Graph{
		graph(0),
		{N: 0, Edges: []api.Edge{}},
		graph(1),
		graph(2),
		graph(1, edge(0, 0, 0)),
		graph(1, edge(0, 0, math.MaxUint32), edge(0, 0, math.MaxUint32)),
		graph(3, edge(2, 0, 258), edge(0, 0, 1)),
		graph(258, edge(257, 256, 0x01020304), edge(1, 257, 5), edge(257, 256, 0x01020304)),
		graph(api.MaxVertices),
		graph(api.MaxVertices, edge(api.MaxVertices-1, api.MaxVertices-1, 1), edge(0, api.MaxVertices-1, 2)),
		many(1000, 5000),
	}
}

func wrongOnes() []api.Graph {
	return []api.Graph{
		graph(-1),
		graph(-1, edge(0, 0, 0)),
		graph(math.MinInt),
		graph(math.MinInt, edge(math.MaxUint32, math.MaxUint32, 0)),
		graph(api.MaxVertices + 1),
		graph(api.MaxVertices+1, edge(0, 0, 0)),
		graph(math.MaxInt),
		graph(math.MaxInt, edge(0, math.MaxUint32, 0)),
		graph(0, edge(0, 0, 0)),
		graph(1, edge(1, 0, 0)),
		graph(1, edge(0, 1, 0)),
		graph(3, edge(3, 2, 0)),
		graph(3, edge(2, 3, 0)),
		graph(3, edge(0, 0, 0), edge(1, 2, 0), edge(2, 3, 0)),
		graph(3, edge(0, 0, 0), edge(3, 2, 0), edge(2, 2, 0)),
		graph(api.MaxVertices, edge(api.MaxVertices, 0, 0)),
		graph(api.MaxVertices, edge(0, api.MaxVertices, 0)),
		graph(3, edge(math.MaxUint32, 0, 0)),
		graph(3, edge(0, math.MaxUint32, 0)),
		graph(3, edge(1<<31, 0, 0)),
	}
}

func TestRight(t *testing.T) {
	for i, g := range rightOnes() {
		if !edges.Right(g) {
			t.Errorf("right one %d (N %d) is not right", i, g.N)
		}
	}
	for i, g := range wrongOnes() {
		if edges.Right(g) {
			t.Errorf("wrong one %d (N %d) is right", i, g.N)
		}
	}
}

func TestEncode(t *testing.T) {
	for _, c := range []struct {
		g    api.Graph
		want string
	}{
		{graph(0), "\x00\x00\x00\x00"},
		{graph(2), "\x02\x00\x00\x00"},
		{graph(api.MaxVertices), "\x00\x00\x10\x00"},
		{graph(0x010203, edge(0x010202, 5, 0xa1b2c3d4)), "\x03\x02\x01\x00" + "\x02\x02\x01\x00" + "\x05\x00\x00\x00" + "\xd4\xc3\xb2\xa1"},
		{graph(3, edge(2, 0, 258), edge(0, 1, 1)), "\x03\x00\x00\x00" + "\x02\x00\x00\x00\x00\x00\x00\x00\x02\x01\x00\x00" + "\x00\x00\x00\x00\x01\x00\x00\x00\x01\x00\x00\x00"},
	} {
		if b, err := edges.Encode(c.g); err != api.OK || string(b) != c.want {
			t.Errorf("Encode(%v) = %x, %v, want %x", c.g, b, err, c.want)
		}
	}
	for i, g := range rightOnes() {
		numbers := []uint32{uint32(g.N)}
		for _, e := range g.Edges {
			numbers = append(numbers, e.From, e.To, e.W)
		}
		if b, err := edges.Encode(g); err != api.OK || !bytes.Equal(b, words(numbers...)) {
			t.Errorf("right one %d (N %d): %d bytes, %v", i, g.N, len(b), err)
		}
	}
}

func TestEncodeRefuses(t *testing.T) {
	for i, g := range wrongOnes() {
		if b, err := edges.Encode(g); err != api.ErrArg || len(b) != 0 {
			t.Errorf("wrong one %d (N %d): %x, %v", i, g.N, b, err)
		}
	}
}

func TestDecode(t *testing.T) {
	for _, c := range []struct {
		b    []byte
		want api.Graph
	}{
		{words(0), graph(0)},
		{[]byte("\x02\x00\x00\x00"), graph(2)},
		{words(api.MaxVertices), graph(api.MaxVertices)},
		{words(1, 0, 0, 9), graph(1, edge(0, 0, 9))},
		{words(3, 2, 0, 258, 0, 1, math.MaxUint32), graph(3, edge(2, 0, 258), edge(0, 1, math.MaxUint32))},
		{words(3, 1, 2, 3, 1, 2, 3), graph(3, edge(1, 2, 3), edge(1, 2, 3))},
		{words(api.MaxVertices, api.MaxVertices-1, api.MaxVertices-1, 0), graph(api.MaxVertices, edge(api.MaxVertices-1, api.MaxVertices-1, 0))},
	} {
		g, at, err := edges.Decode(c.b)
		if err != api.OK || at != 0 || g.N != c.want.N || !slices.Equal(g.Edges, c.want.Edges) {
			t.Errorf("Decode(%x) = %v, %d, %v, want %v", c.b, g, at, err, c.want)
		}
	}
}

func TestDecodeRefuses(t *testing.T) {
	for _, c := range []struct {
		b   []byte
		at  int
		err api.Errno
	}{
		{words(api.MaxVertices + 1), 0, api.ErrArg},
		{words(math.MaxUint32), 0, api.ErrArg},
		{words(1 << 31), 0, api.ErrArg},
		{words(api.MaxVertices+1, math.MaxUint32, 0, 0), 0, api.ErrArg}, // N ahead of the edges
		{append(words(api.MaxVertices+1), 0), 5, api.ErrForm},           // the form ahead of N
		{words(0, 0, 0, 0), 4, api.ErrArg},
		{words(3, 3, 0, 0), 4, api.ErrArg},
		{words(3, 2, 3, 0), 8, api.ErrArg},
		{words(3, 3, 3, 0), 4, api.ErrArg},
		{words(3, 4, 5, 6), 4, api.ErrArg},
		{words(3, math.MaxUint32, 0, 0), 4, api.ErrArg},
		{words(3, 0, math.MaxUint32, 0), 8, api.ErrArg},
		{words(3, 0, 0, 0, 3, 0, 0), 16, api.ErrArg},
		{words(3, 0, 0, 7, 0, 3, 0), 20, api.ErrArg},
		{words(3, 0, 1, 7, 2, 3, 0, 3, 3, 0), 20, api.ErrArg},
		{words(3, 0, 1, 7, 2, 2, 0, 2, 3, 0), 32, api.ErrArg},
		{words(api.MaxVertices, api.MaxVertices, 0, 0), 4, api.ErrArg},
		{words(api.MaxVertices, 0, api.MaxVertices, 0), 8, api.ErrArg},
	} {
		refused(t, c.b, c.at, c.err)
	}
}

// refused asks for the error, its place, and nothing beside them (R5).
func refused(t *testing.T, b []byte, at int, err api.Errno) {
	t.Helper()
	g, gotAt, gotErr := edges.Decode(b)
	if gotAt != at || gotErr != err || g.N != 0 || len(g.Edges) != 0 {
		t.Errorf("Decode(%x) = N %d, %d edges, %d, %v, want %d, %v", b[:min(len(b), 40)], g.N, len(g.Edges), gotAt, gotErr, at, err)
	}
}

// TestLengths: of all lengths, only 4 and a multiple of 12 say a graph; the bytes behind the row are not its own.
func TestLengths(t *testing.T) {
	refused(t, nil, 0, api.ErrForm)
	whole := make([]byte, 100)
	whole[0] = 1
	for size := range whole {
		if size < 4 || size%12 != 4 {
			refused(t, whole[:size], size, api.ErrForm)
			continue
		}
		g, at, err := edges.Decode(whole[:size])
		if err != api.OK || at != 0 || g.N != 1 || len(g.Edges) != size/12 {
			t.Errorf("%d bytes: %v, %d, %v", size, g, at, err)
		}
	}
	for i := range whole { // the form is asked ahead of whatever the bytes say
		whole[i] = 0xff
	}
	for size := range whole {
		if size < 4 || size%12 != 4 {
			refused(t, whole[:size], size, api.ErrForm)
		} else {
			refused(t, whole[:size], 0, api.ErrArg)
		}
	}
}

// TestMostEdges: MaxEdges may be, one more may not.
func TestMostEdges(t *testing.T) {
	g := many(api.MaxVertices, api.MaxEdges)
	b, err := edges.Encode(g)
	if !edges.Right(g) || err != api.OK || len(b) != 4+12*api.MaxEdges {
		t.Fatalf("%d edges: %d bytes, %v", len(g.Edges), len(b), err)
	}
	got, at, err := edges.Decode(b)
	if err != api.OK || at != 0 || got.N != g.N || !slices.Equal(got.Edges, g.Edges) {
		t.Errorf("%d edges are not read as they were: %d, %v", len(g.Edges), at, err)
	}
	turned := api.Graph{N: g.N, Edges: slices.Clone(g.Edges)}
	slices.Reverse(turned.Edges)
	if !edges.Same(g, turned) {
		t.Errorf("%d edges, turned, are others", len(g.Edges))
	}
	g.Edges = append(g.Edges, edge(0, 0, 0))
	if none, err := edges.Encode(g); edges.Right(g) || err != api.ErrArg || len(none) != 0 {
		t.Errorf("%d edges: %d bytes, %v", len(g.Edges), len(none), err)
	}
	b = append(b, make([]byte, 12)...)
	refused(t, b, 4, api.ErrArg)
	refused(t, append(b, 0), len(b)+1, api.ErrForm) // the form is asked first
	copy(b[4:], words(math.MaxUint32))
	refused(t, b, 4, api.ErrArg)
	copy(b, words(api.MaxVertices+1)) // and N
	refused(t, b, 0, api.ErrArg)
}

// TestLastEdgeIsWrong: the place is told however far behind it is.
func TestLastEdgeIsWrong(t *testing.T) {
	b, _ := edges.Encode(many(1000, 5000))
	for end := range 2 {
		at := len(b) - 12 + 4*end
		bad := slices.Clone(b)
		copy(bad[at:], words(1000))
		refused(t, bad, at, api.ErrArg)
	}
}

func TestWhatWasToldIsRead(t *testing.T) {
	for i, g := range rightOnes() {
		b, _ := edges.Encode(g)
		got, at, err := edges.Decode(b)
		if err != api.OK || at != 0 || got.N != g.N || !slices.Equal(got.Edges, g.Edges) {
			t.Errorf("right one %d (N %d) is read as N %d, %d edges, %d, %v", i, g.N, got.N, len(got.Edges), at, err)
		}
		if again, err := edges.Encode(got); err != api.OK || !bytes.Equal(again, b) {
			t.Errorf("right one %d (N %d) is told in two ways", i, g.N)
		}
	}
}

// TestSmallTexts: of all texts of one edge with small numbers, those are refused that are no graph; the others are read and told again.
func TestSmallTexts(t *testing.T) {
	for x := range uint32(4 * 4 * 4 * 4) {
		n, from, to, w := x&3, x>>2&3, x>>4&3, x>>6
		b := words(n, from, to, w)
		switch {
		case from >= n:
			refused(t, b, 4, api.ErrArg)
		case to >= n:
			refused(t, b, 8, api.ErrArg)
		default:
			g, at, err := edges.Decode(b)
			if err != api.OK || at != 0 || g.N != int(n) || !slices.Equal(g.Edges, []api.Edge{edge(from, to, w)}) {
				t.Errorf("Decode(%x) = %v, %d, %v", b, g, at, err)
			}
		}
	}
}

func TestSame(t *testing.T) {
	a, b, c := edge(0, 1, 5), edge(1, 0, 5), edge(0, 1, 6)
	for _, k := range []struct {
		one, two api.Graph
		want     bool
	}{
		{graph(0), graph(0), true},
		{graph(0), api.Graph{N: 0, Edges: []api.Edge{}}, true},
		{graph(2), graph(3), false},
		{graph(2, a), graph(2, a), true},
		{graph(2, a), graph(3, a), false},
		{graph(2, a), graph(2), false},
		{graph(2, a), graph(2, b), false}, // turned round, it is another one
		{graph(2, a), graph(2, c), false}, // so it is by its weight alone
		{graph(2, edge(0, 0, 1)), graph(2, edge(0, 1, 1)), false},
		{graph(2, edge(0, 0, 1)), graph(2, edge(1, 0, 1)), false},
		{graph(2, a, b, c), graph(2, c, a, b), true},
		{graph(2, a, b, c), graph(2, c, b, a), true},
		{graph(2, a, a), graph(2, a), false},
		{graph(2, a, a, b), graph(2, a, b, b), false}, // as many, but not each as often
		{graph(2, a, a, b), graph(2, a, b, a), true},
		{graph(2, a, b, a, c, b), graph(2, b, c, b, a, a), true},
		{graph(2, a, b, a, c, b), graph(2, b, c, b, a, c), false},
		{graph(2, edge(0, 1, math.MaxUint32)), graph(2, edge(0, 1, 0)), false},
		{graph(1<<20, edge(1, 256, 65536)), graph(1<<20, edge(256, 1, 65536)), false},
		{graph(-1), graph(-1), true}, // graphs need not be right to be the same
		{graph(-1), graph(1), false},
		{graph(1, edge(7, 8, 9)), graph(1, edge(7, 8, 9)), true},
		{graph(1, edge(7, 8, 9)), graph(1, edge(8, 7, 9)), false},
	} {
		if edges.Same(k.one, k.two) != k.want || edges.Same(k.two, k.one) != k.want {
			t.Errorf("Same(%v, %v) is not %v", k.one, k.two, k.want)
		}
	}
}

// TestSameOfAllOrders holds all lists of four edges out of three against each other, by their counts.
func TestSameOfAllOrders(t *testing.T) {
	kinds := []api.Edge{edge(0, 1, 5), edge(1, 0, 5), edge(0, 1, 6)}
	type list struct {
		g      api.Graph
		counts [3]int
	}
	var lists []list
	for x := range 81 {
		l := list{g: graph(2)}
		for range 4 {
			l.g.Edges = append(l.g.Edges, kinds[x%3])
			l.counts[x%3]++
			x /= 3
		}
		lists = append(lists, l)
	}
	for _, one := range lists {
		for _, two := range lists {
			if edges.Same(one.g, two.g) != (one.counts == two.counts) {
				t.Errorf("Same(%v, %v) is not %v", one.g, two.g, one.counts == two.counts)
			}
		}
	}
}

// TestHandedInStays is R1: neither what was handed in, nor the room behind it, is written over.
func TestHandedInStays(t *testing.T) {
	for i, g := range append(rightOnes(), wrongOnes()...) {
		whole := append(slices.Clone(g.Edges), edge(91, 92, 93), edge(94, 95, 96))
		before := slices.Clone(whole)
		g.Edges = whole[:len(g.Edges)]
		turned := api.Graph{N: g.N, Edges: slices.Clone(g.Edges)}
		slices.Reverse(turned.Edges)
		order := slices.Clone(turned.Edges)
		edges.Right(g)
		edges.Encode(g)
		if !edges.Same(g, turned) {
			t.Errorf("graph %d (N %d), turned, is another one", i, g.N)
		}
		if !slices.Equal(whole, before) || !slices.Equal(turned.Edges, order) {
			t.Errorf("graph %d (N %d) was written over", i, g.N)
		}
	}
	for _, b := range texts() {
		whole := append(slices.Clone(b), bytes.Repeat([]byte{0xee}, 32)...)
		before := slices.Clone(whole)
		edges.Decode(whole[:len(b)])
		if !bytes.Equal(whole, before) {
			t.Errorf("%x was written over", b)
		}
	}
}

// texts has texts of graphs, and others.
func texts() [][]byte {
	l := [][]byte{nil, {}, {1}, {0, 0, 0}, words(0), words(3, 2, 0, 258, 0, 1, 1), words(3, 2, 3, 1), words(math.MaxUint32), bytes.Repeat([]byte{0xff}, 28), make([]byte, 40)}
	for _, g := range rightOnes() {
		b, _ := edges.Encode(g)
		l = append(l, b)
		if len(b) > 4 {
			l = append(l, b[:len(b)-1])
		}
	}
	return l
}

// TestAnswersAreNew is R1 of what is answered: it shares nothing with what was handed in, nor with another answer.
func TestAnswersAreNew(t *testing.T) {
	g := graph(3, edge(2, 0, 258), edge(0, 1, 1))
	want := words(3, 2, 0, 258, 0, 1, 1)
	one, _ := edges.Encode(g)
	two, _ := edges.Encode(g)
	g.Edges[0] = edge(1, 1, 1)
	clear(two[:cap(two)])
	if !bytes.Equal(one, want) {
		t.Errorf("Encode: the answer became %x", one)
	}
	first, _, _ := edges.Decode(want)
	second, _, _ := edges.Decode(want)
	clear(second.Edges[:cap(second.Edges)])
	clear(want)
	if !slices.Equal(first.Edges, []api.Edge{edge(2, 0, 258), edge(0, 1, 1)}) {
		t.Errorf("Decode: the answer became %v", first)
	}
}

// TestNoPanic is R2, and R4: whatever is handed in, the calls end, twice with the same answers.
func TestNoPanic(t *testing.T) {
	graphs := append(rightOnes(), wrongOnes()...)
	for i, g := range graphs {
		b, err := edges.Encode(g)
		again, errAgain := edges.Encode(g)
		if !bytes.Equal(b, again) || err != errAgain || edges.Right(g) != (err == api.OK) {
			t.Errorf("graph %d (N %d): %v, then %v", i, g.N, err, errAgain)
		}
		for j, h := range graphs {
			if edges.Same(g, h) != edges.Same(h, g) || i == j && !edges.Same(g, h) {
				t.Errorf("graphs %d and %d (N %d and %d): Same", i, j, g.N, h.N)
			}
		}
	}
	for _, b := range texts() {
		g, at, err := edges.Decode(b)
		h, atAgain, errAgain := edges.Decode(b)
		if !edges.Same(g, h) || at != atAgain || err != errAgain || err == api.OK && !edges.Right(g) {
			t.Errorf("%d bytes: %d, %v, then %d, %v", len(b), at, err, atAgain, errAgain)
		}
	}
}
