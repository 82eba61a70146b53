package pool_test

import (
	"fmt"
	"math"
	"slices"
	"strings"
	"testing"

	"cartage/api"
	"cartage/disk"
	"cartage/pool"
)

// dice tells numbers; the same ones each time the test is run.
type dice uint64

func (d *dice) roll(n int) int {
	*d = *d*6364136223846793005 + 1442695040888963407
	return int(*d >> 33 % dice(n))
}

// frame is a page of a file, by its number.
type frame struct {
	name   string
	number int
	dirty  bool
}

// model is what the chapter says, told in another way: each file stands whole as the pool has it, and as the disk has it;
// the frames stand in a row, the one that was used longest ago first; operations are counted, up to a crash.
type model struct {
	frames    int
	has, disk map[string]string
	row       []frame
	ops       int // of one call
	crash     int // the number of the operation that a crash comes ahead of; 0: none
}

// operation tells whether the next one is made.
func (m *model) operation() bool {
	m.ops++
	return m.crash == 0 || m.ops < m.crash
}

// save brings a page onto the disk.
func (m *model) save(f *frame) api.Errno {
	if !f.dirty {
		return api.OK
	}
	if !m.operation() {
		return api.ErrDown
	}
	from := f.number * 64
	to := min(from+64, len(m.has[f.name]))
	m.disk[f.name] = m.disk[f.name][:from] + m.has[f.name][from:to] + m.disk[f.name][to:]
	f.dirty = false
	return api.OK
}

// touch has a page be the last of the row.
func (m *model) touch(name string, number int) api.Errno {
	at := slices.IndexFunc(m.row, func(f frame) bool { return f.name == name && f.number == number })
	if at >= 0 {
		f := m.row[at]
		m.row = append(slices.Delete(m.row, at, at+1), f)
		return api.OK
	}
	if len(m.row) == m.frames {
		if err := m.save(&m.row[0]); err != api.OK {
			return err
		}
		m.row = slices.Delete(m.row, 0, 1)
	}
	if !m.operation() {
		return api.ErrDown
	}
	m.row = append(m.row, frame{name: name, number: number})
	return api.OK
}

// pages does something with each page of some bytes, when it is the last of the row.
func (m *model) pages(name string, at, n int, do func(f *frame)) api.Errno {
	m.ops = 0
	if !m.operation() {
		return api.ErrDown
	}
	s, is := m.has[name]
	switch {
	case !is:
		return api.ErrNone
	case at < 0 || n < 0 || at > len(s) || n > len(s)-at:
		return api.ErrArg
	}
	for number := at / 64; n > 0 && number <= (at+n-1)/64; number++ {
		if err := m.touch(name, number); err != api.OK {
			return err
		}
		do(&m.row[len(m.row)-1])
	}
	return api.OK
}

func (m *model) readAt(name string, at, n int) (string, api.Errno) {
	if err := m.pages(name, at, n, func(*frame) {}); err != api.OK {
		return "", err
	}
	return m.has[name][at : at+n], api.OK
}

func (m *model) writeAt(name string, at int, b string) api.Errno {
	return m.pages(name, at, len(b), func(f *frame) {
		s := []byte(m.has[name])
		for i := range s {
			if i/64 == f.number && i >= at && i < at+len(b) {
				s[i] = b[i-at]
			}
		}
		m.has[name] = string(s)
		f.dirty = true
	})
}

func (m *model) flush(name string) api.Errno {
	m.ops = 0
	for number := range len(m.has[name])/64 + 1 {
		for i := range m.row {
			if m.row[i].name != name || m.row[i].number != number {
				continue
			}
			if err := m.save(&m.row[i]); err != api.OK {
				return err
			}
		}
	}
	return api.OK
}

func (m *model) drop(name string) {
	m.ops = 0
	m.row = slices.DeleteFunc(m.row, func(f frame) bool { return f.name == name })
	if s, is := m.disk[name]; is {
		m.has[name] = s
	}
}

func (m *model) dirty() int {
	n := 0
	for _, f := range m.row {
		if f.dirty {
			n++
		}
	}
	return n
}

// pair is a pool beside the model of it; what is asked of one is asked of the other.
type pair struct {
	d   *disk.Disk
	p   *pool.Pool
	m   *model
	log string // what was asked for
}

func newPair(t *testing.T, frames int, files ...string) *pair {
	t.Helper()
	d := withFiles(t, files...)
	m := &model{frames: max(frames, 1), has: map[string]string{}, disk: map[string]string{}}
	for i := 0; i < len(files); i += 2 {
		m.has[files[i]], m.disk[files[i]] = files[i+1], files[i+1]
	}
	return &pair{d, pool.New(d, frames), m, fmt.Sprintf("New(%d)", frames)}
}

// arm has the next call crash ahead of that operation of it; 0: not at all.
func (p *pair) arm(n int) {
	p.m.crash = n
	p.d.Arm(n, all())
}

// call makes one of both, and holds what they answer, and how many operations it took, against each other.
func (p *pair) call(t *testing.T, name string, ofPool, ofModel func() (string, api.Errno)) {
	t.Helper()
	if p.m.crash > 0 {
		name += fmt.Sprintf(" with a crash ahead of operation %d", p.m.crash)
	}
	p.log += ", " + name
	before := p.d.Ops()
	got, err := ofPool()
	ops := p.d.Ops() - before
	want, wantErr := ofModel()
	if got != want || err != wantErr || ops != p.m.ops {
		t.Fatalf("%s: %q, %v by %d operations, want %q, %v by %d", p.log, got, err, ops, want, wantErr, p.m.ops)
	}
	p.arm(0)
	p.d.Restart()
	if err == api.ErrDown {
		p.anew(t)
	}
	p.look(t)
}

// anew asks behind an error what is told of it: the bytes, and how many pages are dirty; which one was used last is not told,
// so both begin anew then.
func (p *pair) anew(t *testing.T) {
	t.Helper()
	if p.p.Dirty() != p.m.dirty() || p.p.Resident() > p.m.frames {
		t.Fatalf("%s: %d pages are held, %d dirty, want %d dirty", p.log, p.p.Resident(), p.p.Dirty(), p.m.dirty())
	}
	for name, s := range p.m.disk {
		onDisk(t, p.d, name, s)
	}
	for name, s := range p.m.has {
		b, err := p.p.ReadAt(name, 0, len(s))
		if err != api.OK || string(b) != s {
			t.Fatalf("%s: %s has %q, %v, want %q", p.log, name, b, err, s)
		}
	}
	for name := range p.m.has {
		must(t, p.p.Flush(name))
		p.p.Drop(name)
		p.m.disk[name] = p.m.has[name]
	}
	p.m.row = nil
}

// look holds the counts, and what is on the disk, against the model.
func (p *pair) look(t *testing.T) {
	t.Helper()
	if p.p.Resident() != len(p.m.row) || p.p.Dirty() != p.m.dirty() {
		t.Fatalf("%s: %d pages are held, %d dirty, want %d, %d", p.log, p.p.Resident(), p.p.Dirty(), len(p.m.row), p.m.dirty())
	}
	for name, want := range p.m.disk {
		if b, err := p.d.ReadAt(name, 0, len(want)); err != api.OK || string(b) != want {
			t.Fatalf("%s: %s has %q on the disk, %v, want %q", p.log, name, b, err, want)
		}
		if size, err := p.d.Size(name); err != api.OK || size != len(want) {
			t.Fatalf("%s: %s has %d bytes, %v, want %d", p.log, name, size, err, len(want))
		}
	}
}

func (p *pair) readAt(t *testing.T, name string, at, n int) {
	t.Helper()
	p.call(t, fmt.Sprintf("ReadAt(%q, %d, %d)", name, at, n), func() (string, api.Errno) {
		b, err := p.p.ReadAt(name, at, n)
		return string(b), err
	}, func() (string, api.Errno) { return p.m.readAt(name, at, n) })
}

func (p *pair) writeAt(t *testing.T, name string, at int, b string) {
	t.Helper()
	p.call(t, fmt.Sprintf("WriteAt(%q, %d, %q)", name, at, b),
		func() (string, api.Errno) { return "", p.p.WriteAt(name, at, []byte(b)) },
		func() (string, api.Errno) { return "", p.m.writeAt(name, at, b) })
}

func (p *pair) flush(t *testing.T, name string) {
	t.Helper()
	p.call(t, fmt.Sprintf("Flush(%q)", name),
		func() (string, api.Errno) { return "", p.p.Flush(name) },
		func() (string, api.Errno) { return "", p.m.flush(name) })
}

func (p *pair) drop(t *testing.T, name string) {
	t.Helper()
	none := func(drop func(string)) func() (string, api.Errno) {
		return func() (string, api.Errno) { drop(name); return "", api.OK }
	}
	p.call(t, fmt.Sprintf("Drop(%q)", name), none(p.p.Drop), none(p.m.drop))
}

// step makes a call that the dice choose.
func (p *pair) step(t *testing.T, r *dice, names []string) {
	t.Helper()
	name := names[r.roll(len(names))]
	size := len(p.m.has[name])
	at := r.roll(size + 1)
	n := r.roll(size - at + 1)
	if r.roll(2) == 0 {
		n = min(n, r.roll(5))
	}
	switch r.roll(20) {
	case 0:
		at = []int{-1, size, size + 1, math.MaxInt, math.MinInt}[r.roll(5)]
	case 1:
		n = size - at + 1 + r.roll(100)
	}
	if r.roll(6) == 0 {
		p.arm(1 + r.roll(8))
	}
	switch r.roll(10) {
	case 0:
		p.flush(t, name)
	case 1:
		p.drop(t, name)
	case 2, 3, 4, 5:
		p.readAt(t, name, at, n)
	default:
		p.writeAt(t, name, at, text(byte('0'+r.roll(70)), n))
	}
}

// TestModel: whatever is done in whatever order, with crashes on the way, a pool answers as the model does.
func TestModel(t *testing.T) {
	for round := range 1200 {
		r := dice(round)
		frames := []int{math.MinInt, 0, 1, 2, 3, 4, 5, 8, 100, math.MaxInt}[round%10]
		p := newPair(t, frames, "f", text('a', 100+round%200), "g", text('A', 130-round%3), "h", text('0', round%65), "empty", "")
		for range 60 {
			p.step(t, &r, []string{"f", "f", "g", "g", "h", "empty", "none"})
		}
	}
}

// TestAllShortRows: all rows of so many calls, over a file of three pages and one of a single page.
func TestAllShortRows(t *testing.T) {
	const calls = 12
	f, g := text('a', 130), text('A', 64)
	for frames := 1; frames <= 3; frames++ {
		for row := range calls * calls * calls * calls {
			p := newPair(t, frames, "f", f, "g", g)
			for range 4 {
				p.short(t, row%calls)
				row /= calls
			}
		}
	}
}

// short makes the call of that number.
func (p *pair) short(t *testing.T, call int) {
	t.Helper()
	switch {
	case call < 3:
		p.readAt(t, "f", call*64, 2)
	case call < 6:
		p.writeAt(t, "f", (call-3)*64, fmt.Sprint(len(p.log)%10))
	case call == 6:
		p.readAt(t, "g", 63, 1)
	case call == 7:
		p.writeAt(t, "g", 63, "!")
	case call < 10:
		p.flush(t, []string{"f", "g"}[call-8])
	default:
		p.drop(t, []string{"f", "g"}[call-10])
	}
}

// TestByTurns is R3: pools over disks of their own, used by turns, answer as their models do, each alone.
func TestByTurns(t *testing.T) {
	for round := range 100 {
		r := dice(round)
		var pairs []*pair
		for i := range 4 {
			pairs = append(pairs, newPair(t, 1+i%3, "f", text(byte('a'+i), 200), "g", text(byte('A'+i), 70)))
		}
		for range 40 {
			pairs[r.roll(len(pairs))].step(t, &r, []string{"f", "g", "none"})
			for _, other := range pairs {
				other.look(t)
			}
		}
	}
}

// TestSameAnswers is R4: the same calls have the same answers, and the same operations, in whatever order a map is gone through.
func TestSameAnswers(t *testing.T) {
	answered := func() string {
		var b strings.Builder
		d := withFiles(t, "f", text('a', 1000), "g", text('A', 900))
		p := pool.New(d, 9)
		r := dice(7)
		for range 2000 {
			name, at := []string{"f", "g"}[r.roll(2)], r.roll(900)
			if r.roll(9) == 0 {
				d.Arm(1+r.roll(4), all())
			}
			switch r.roll(12) {
			case 0:
				fmt.Fprint(&b, p.Flush(name))
			case 1:
				p.Drop(name)
			case 2, 3, 4, 5:
				fmt.Fprint(&b, p.WriteAt(name, at, []byte(text(byte('0'+r.roll(70)), r.roll(900-at)))))
			default:
				read, err := p.ReadAt(name, at, r.roll(900-at))
				fmt.Fprint(&b, string(read), err)
			}
			up(d)
			fmt.Fprintln(&b, p.Resident(), p.Dirty(), d.Ops())
		}
		return b.String()
	}
	first := answered()
	for range 5 {
		if answered() != first {
			t.Fatal("the same calls have other answers")
		}
	}
}

// TestManyFrames: a pool of many pages goes on for long, and loses nothing.
func TestManyFrames(t *testing.T) {
	const size = 64 * 400
	want := []byte(text('a', size))
	d := withFiles(t, "f", string(want))
	p := pool.New(d, 150)
	r := dice(3)
	for range 5000 {
		at := r.roll(size - 100)
		s := text(byte('0'+r.roll(70)), r.roll(100))
		writes(t, p, "f", at, s)
		copy(want[at:], s)
		at = r.roll(size - 100)
		reads(t, p, "f", at, string(want[at:at+100]))
	}
	counts(t, p, 150, p.Dirty())
	must(t, p.Flush("f"))
	onDisk(t, d, "f", string(want))
}
