package heap_test

import (
	"slices"
	"testing"

	"cartage/api"
	"cartage/heap"
)

// dice rolls numbers that are the same on each run.
type dice uint64

func (d *dice) roll(n int) int {
	*d = *d*6364136223846793005 + 1442695040888963407
	return int(*d >> 33 % dice(n))
}

// pair is a heap beside the plainest one that does what the chapter says: a list that is sorted.
type pair struct {
	heap heap.Heap[api.Rec]
	list []api.Rec
}

func (p *pair) push(x api.Rec) {
	p.heap.Push(x)
	p.list = append(p.list, x)
	slices.SortFunc(p.list, func(a, b api.Rec) int {
		switch {
		case a.Before(b):
			return -1
		case b.Before(a):
			return 1
		}
		return 0
	})
}

// first tells the first of the list.
func (p *pair) first() (x api.Rec, is bool) {
	if len(p.list) == 0 {
		return x, false
	}
	return p.list[0], true
}

func (p *pair) pop(t *testing.T) {
	t.Helper()
	want, wantIs := p.first()
	if x, is := p.heap.Pop(); x != want || is != wantIs {
		t.Fatalf("Pop() = %v, %v, want %v, %v", x, is, want, wantIs)
	}
	p.list = p.list[min(1, len(p.list)):]
}

// same asks both for their first, and how many they have.
func (p *pair) same(t *testing.T) {
	t.Helper()
	want, wantIs := p.first()
	if x, is := p.heap.Peek(); x != want || is != wantIs {
		t.Fatalf("Peek() = %v, %v, want %v, %v", x, is, want, wantIs)
	}
	if p.heap.Len() != len(p.list) {
		t.Fatalf("Len() = %d, want %d", p.heap.Len(), len(p.list))
	}
}

// TestModel pushes and pops by turns, growing and shrinking, of few things and of many; two pairs go side by side.
func TestModel(t *testing.T) {
	for seed := range 60 {
		d := dice(seed)
		pairs := make([]pair, 2)
		kinds := 1 + d.roll(50)
		for turn := range 1000 {
			p := &pairs[d.roll(2)]
			if d.roll(10) < 3+turn/100%2*4 {
				p.pop(t)
			} else {
				p.push(api.Rec{Key: uint64(d.roll(kinds)), Val: uint64(d.roll(3))})
			}
			pairs[0].same(t)
			pairs[1].same(t)
		}
		for i := range pairs {
			for len(pairs[i].list) > 0 {
				pairs[i].pop(t)
				pairs[i].same(t)
			}
			pairs[i].pop(t)
			pairs[i].same(t)
		}
	}
}

// TestSameAnswers is R4: of two that are done the same to, both tell the same.
func TestSameAnswers(t *testing.T) {
	told := func() (list []api.Rec) {
		var h heap.Heap[api.Rec]
		d := dice(4)
		for range 3000 {
			if d.roll(5) < 2 {
				x, _ := h.Pop()
				list = append(list, x)
			} else {
				h.Push(api.Rec{Key: uint64(d.roll(20)), Val: uint64(d.roll(4))})
			}
			x, _ := h.Peek()
			list = append(list, x, api.Rec{Key: uint64(h.Len())})
		}
		return list
	}
	if !slices.Equal(told(), told()) {
		t.Error("the same calls have other answers")
	}
}
