package lru_test

import (
	"fmt"
	"math"
	"slices"
	"strings"
	"testing"

	"cartage/api"
	"cartage/lru"
)

// model is what the chapter says, told in another way: the keys stand in a row, in their order, and beside them the pins,
// one by one.
type model[K comparable] struct {
	frames int
	row    []K
	pins   []K
}

func newModel[K comparable](frames int) *model[K] {
	return &model[K]{frames: max(frames, 1)}
}

func (m *model[K]) use(key K) (K, bool, api.Errno) {
	var zero K
	if at := slices.Index(m.row, key); at >= 0 {
		m.row = append(slices.Delete(m.row, at, at+1), key)
		return zero, false, api.OK
	}
	if len(m.row) < m.frames {
		m.row = append(m.row, key)
		return zero, false, api.OK
	}
	at := slices.IndexFunc(m.row, func(k K) bool { return !slices.Contains(m.pins, k) })
	if at < 0 {
		return zero, false, api.ErrFull
	}
	gone := m.row[at]
	m.row = append(slices.Delete(m.row, at, at+1), key)
	return gone, true, api.OK
}

func (m *model[K]) pin(key K) api.Errno {
	if !slices.Contains(m.row, key) {
		return api.ErrNone
	}
	m.pins = append(m.pins, key)
	return api.OK
}

func (m *model[K]) unpin(key K) api.Errno {
	if !slices.Contains(m.row, key) {
		return api.ErrNone
	}
	at := slices.Index(m.pins, key)
	if at < 0 {
		return api.ErrState
	}
	m.pins = slices.Delete(m.pins, at, at+1)
	return api.OK
}

func (m *model[K]) drop(key K) api.Errno {
	at := slices.Index(m.row, key)
	switch {
	case at < 0:
		return api.ErrNone
	case slices.Contains(m.pins, key):
		return api.ErrState
	}
	m.row = slices.Delete(m.row, at, at+1)
	return api.OK
}

// pair is a cache beside the model of it; what is asked of one is asked of the other.
type pair[K comparable] struct {
	c    *lru.Cache[K]
	m    *model[K]
	keys []K    // those that are asked for
	log  string // what was asked for
}

func newPair[K comparable](frames int, keys []K) *pair[K] {
	return &pair[K]{lru.New[K](frames), newModel[K](frames), keys, fmt.Sprintf("New(%d)", frames)}
}

// calls tells how many there are to choose from.
func (p *pair[K]) calls() int { return 4 * len(p.keys) }

// step makes the call of that number.
func (p *pair[K]) step(t *testing.T, call int) {
	t.Helper()
	key := p.keys[call/4]
	var name, got, want string
	switch call % 4 {
	case 0:
		gone, is, err := p.c.Use(key)
		wantGone, wantIs, wantErr := p.m.use(key)
		name, got, want = "Use", fmt.Sprint(gone, is, err), fmt.Sprint(wantGone, wantIs, wantErr)
	case 1:
		name, got, want = "Pin", fmt.Sprint(p.c.Pin(key)), fmt.Sprint(p.m.pin(key))
	case 2:
		name, got, want = "Unpin", fmt.Sprint(p.c.Unpin(key)), fmt.Sprint(p.m.unpin(key))
	case 3:
		name, got, want = "Drop", fmt.Sprint(p.c.Drop(key)), fmt.Sprint(p.m.drop(key))
	}
	p.log += fmt.Sprintf(", %s(%v)", name, key)
	if got != want {
		t.Fatalf("%s: %s, want %s", p.log, got, want)
	}
	p.look(t)
}

// look holds what the cache tells against what the model does.
func (p *pair[K]) look(t *testing.T) {
	t.Helper()
	if keys := p.c.Keys(); !slices.Equal(keys, p.m.row) {
		t.Fatalf("%s: Keys() = %v, want %v", p.log, keys, p.m.row)
	}
	for _, key := range p.keys {
		if has := p.c.Has(key); has != slices.Contains(p.m.row, key) {
			t.Fatalf("%s: Has(%v) = %v", p.log, key, has)
		}
	}
}

// dice tells numbers; the same ones each time the test is run.
type dice uint64

func (d *dice) roll(n int) int {
	*d = *d*6364136223846793005 + 1442695040888963407
	return int(*d >> 33 % dice(n))
}

// TestAllShortRows: all rows of so many calls, over so many keys.
func TestAllShortRows(t *testing.T) {
	for _, v := range []struct{ frames, keys, size int }{{1, 2, 5}, {2, 3, 4}, {3, 2, 5}} {
		keys := []string{"", "a", "b"}[:v.keys]
		rows := 1
		for range v.size {
			rows *= 4 * v.keys
		}
		for row := range rows {
			p := newPair(v.frames, keys)
			for range v.size {
				p.step(t, row%p.calls())
				row /= p.calls()
			}
		}
	}
}

// runModel makes many calls, most of them uses, of a cache with that many frames.
func runModel[K comparable](t *testing.T, frames int, keys []K, seed dice) {
	t.Helper()
	p := newPair(frames, keys)
	for range 80 {
		call := seed.roll(p.calls())
		if seed.roll(3) == 0 {
			call -= call % 4
		}
		p.step(t, call)
	}
}

// TestModel: whatever is done in whatever order, a cache answers as the model does.
func TestModel(t *testing.T) {
	type place struct {
		name string
		page int
	}
	for round := range 1500 {
		var numbers []int
		var texts []string
		var places []place
		for i := range 2 + round%7 {
			numbers = append(numbers, i*i-i) // 0 twice
			texts = append(texts, strings.Repeat("x", i))
			places = append(places, place{string(rune('a' + i%3)), i / 3})
		}
		frames := []int{math.MinInt, 0, 1, 2, 3, 4, 5, 6, 8, math.MaxInt}[round%10]
		runModel(t, frames, numbers, dice(round))
		runModel(t, frames, texts, dice(round))
		runModel(t, frames, places, dice(round))
	}
}

// TestManyKeys: a cache that is full goes on for long, as the model does.
func TestManyKeys(t *testing.T) {
	var keys []int
	for i := range 300 {
		keys = append(keys, i)
	}
	p := newPair(100, keys)
	d := dice(1)
	for i := range 20000 {
		key := d.roll(300)
		gone, is, err := p.c.Use(key)
		wantGone, wantIs, wantErr := p.m.use(key)
		if gone != wantGone || is != wantIs || err != wantErr {
			t.Fatalf("use %d: %v, %v, %v, want %v, %v, %v", i, gone, is, err, wantGone, wantIs, wantErr)
		}
	}
	p.look(t)
}

// TestByTurns is R3: caches that are used by turns, with the same keys, answer as their models do, each alone.
func TestByTurns(t *testing.T) {
	for round := range 200 {
		d := dice(round)
		keys := []string{"a", "b", "c", "d"}
		pairs := []*pair[string]{newPair(2, keys), newPair(2, keys), newPair(3, keys), newPair(1, keys)}
		for range 100 {
			p := pairs[d.roll(len(pairs))]
			p.step(t, d.roll(p.calls()))
			for _, other := range pairs {
				other.look(t)
			}
		}
	}
}

// TestSameAnswers is R4: the same calls have the same answers, in whatever order a map is gone through.
func TestSameAnswers(t *testing.T) {
	answered := func() string {
		var b strings.Builder
		c := lru.New[int](20)
		d := dice(7)
		for range 3000 {
			key := d.roll(60)
			switch d.roll(8) {
			case 0:
				fmt.Fprint(&b, c.Pin(key))
			case 1, 2:
				fmt.Fprint(&b, c.Unpin(key))
			case 3:
				fmt.Fprint(&b, c.Drop(key))
			default:
				has := c.Has(key)
				gone, is, err := c.Use(key)
				fmt.Fprint(&b, has, gone, is, err)
			}
			fmt.Fprintln(&b, c.Keys())
		}
		return b.String()
	}
	first := answered()
	for range 5 {
		if answered() != first {
			t.Fatal("the same calls have other answers")
		}
	}
}
