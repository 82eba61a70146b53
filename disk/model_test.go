package disk_test

import (
	"fmt"
	"maps"
	"math"
	"slices"
	"strings"
	"testing"

	"cartage/api"
	"cartage/disk"
)

// model is what the chapter says, told in another way: bytes stand in texts, and all is counted anew each time.
type model struct {
	now, synced map[string]string
	room, ops   int
	down        bool
	armed       int // the number of the operation that the crash comes ahead of; 0: none
	keep        string
}

func newModel(room int) *model {
	return &model{now: map[string]string{}, synced: map[string]string{}, room: max(room, 0)}
}

func (m *model) used() int {
	n := 0
	for _, s := range m.now {
		n += (len(s) + 15) / 16
	}
	return n
}

// names tells them by sorting each new one in.
func (m *model) names() []string {
	var l []string
	for name := range m.now {
		at, _ := slices.BinarySearch(l, name)
		l = slices.Insert(l, at, name)
	}
	return l
}

func (m *model) crash(keep string) {
	if m.down {
		return
	}
	m.down, m.armed = true, 0
	i := 0
	for _, name := range m.names() {
		now, old := m.now[name], m.synced[name]
		padded := old + strings.Repeat("\x00", len(now)-len(old))
		size, torn := len(old), ""
		for at := 0; at < len(now); at += 16 {
			end := min(at+16, len(now))
			part := padded[at:end]
			if end > len(old) || part != now[at:end] {
				if i < len(keep) && keep[i] == '1' {
					part, size = now[at:end], max(size, end)
				}
				i++
			}
			torn += part
		}
		m.now[name], m.synced[name] = torn[:size], torn[:size]
	}
}

func (m *model) arm(n int, keep string) {
	m.armed, m.keep = 0, keep
	if n >= 1 && n < math.MaxInt-m.ops {
		m.armed = m.ops + n
	}
}

// operation tells whether the disk is up for the next one.
func (m *model) operation() bool {
	m.ops++
	if m.ops == m.armed {
		m.crash(m.keep)
	}
	return !m.down
}

// on tells what each operation on a file begins with.
func (m *model) on(name string) api.Errno {
	if !m.operation() {
		return api.ErrDown
	}
	if _, is := m.now[name]; !is {
		return api.ErrNone
	}
	return api.OK
}

func (m *model) create(name string) api.Errno {
	_, is := m.now[name]
	switch {
	case !m.operation():
		return api.ErrDown
	case name == "" || len(name) > 24:
		return api.ErrArg
	case is:
		return api.ErrIs
	}
	m.now[name], m.synced[name] = "", ""
	return api.OK
}

// writeAt: nil instead of a place is the end.
func (m *model) writeAt(name string, place *int, b string) api.Errno {
	if err := m.on(name); err != api.OK {
		return err
	}
	was := m.now[name]
	at := len(was)
	if place != nil {
		at = *place
	}
	if at < 0 || at > len(was) {
		return api.ErrArg
	}
	m.now[name] = was[:at] + b + was[min(at+len(b), len(was)):]
	if m.used() > m.room {
		m.now[name] = was
		return api.ErrSpace
	}
	return api.OK
}

func (m *model) readAt(name string, at, n int) (string, api.Errno) {
	if err := m.on(name); err != api.OK {
		return "", err
	}
	size := len(m.now[name])
	if at < 0 || n < 0 || at > size || n > size || at+n > size {
		return "", api.ErrArg
	}
	return m.now[name][at : at+n], api.OK
}

func (m *model) sync(name string) api.Errno {
	err := m.on(name)
	if err == api.OK {
		m.synced[name] = m.now[name]
	}
	return err
}

func (m *model) remove(name string) api.Errno {
	err := m.on(name)
	if err == api.OK {
		delete(m.now, name)
		delete(m.synced, name)
	}
	return err
}

func (m *model) rename(from, to string) api.Errno {
	err := m.on(from)
	if err == api.OK && (to == "" || len(to) > 24) {
		return api.ErrArg
	}
	if err == api.OK && from != to {
		m.now[to], m.synced[to] = m.now[from], m.synced[from]
		delete(m.now, from)
		delete(m.synced, from)
	}
	return err
}

// pair is a disk beside the model of it; what is asked of one is asked of the other.
type pair struct {
	d    *disk.Disk
	m    *model
	dice uint64
}

// roll tells a number below n; the same ones each time the test is run.
func (p *pair) roll(n int) int {
	p.dice = p.dice*6364136223846793005 + 1442695040888963407
	return int(p.dice >> 33 % uint64(n))
}

func (p *pair) name() string {
	return []string{"a", "b", "c", "B", "aa", "a\x00", "", "a name of twenty-five byt."}[p.roll(p.roll(8)+1)]
}

func (p *pair) place() int {
	return []int{p.roll(40), p.roll(20), p.roll(90), 0, 16, -1, math.MinInt, math.MaxInt}[p.roll(p.roll(8)+1)]
}

func (p *pair) text() string {
	return text([]byte("aA\x00")[p.roll(3)], p.roll(p.roll(60)+1))
}

func (p *pair) kept() string {
	var b strings.Builder
	for range p.roll(8) {
		b.WriteByte("01"[p.roll(2)])
	}
	return b.String()
}

// step asks both for the same, and tells both answers.
func (p *pair) step() (call, got, want string) {
	name, other, at, n, b, keep := p.name(), p.name(), p.place(), p.place(), p.text(), p.kept()
	switch p.roll(16) {
	case 0, 1:
		return fmt.Sprintf("Create(%q)", name), fmt.Sprint(p.d.Create(name)), fmt.Sprint(p.m.create(name))
	case 2, 3, 4:
		return fmt.Sprintf("Append(%q, %q)", name, b), fmt.Sprint(p.d.Append(name, []byte(b))), fmt.Sprint(p.m.writeAt(name, nil, b))
	case 5, 6:
		return fmt.Sprintf("WriteAt(%q, %d, %q)", name, at, b), fmt.Sprint(p.d.WriteAt(name, at, []byte(b))), fmt.Sprint(p.m.writeAt(name, &at, b))
	case 7:
		bytes, err := p.d.ReadAt(name, at, n)
		s, wantErr := p.m.readAt(name, at, n)
		return fmt.Sprintf("ReadAt(%q, %d, %d)", name, at, n), fmt.Sprintf("%q %v", bytes, err), fmt.Sprintf("%q %v", s, wantErr)
	case 8:
		return p.size(name)
	case 9, 10:
		return fmt.Sprintf("Sync(%q)", name), fmt.Sprint(p.d.Sync(name)), fmt.Sprint(p.m.sync(name))
	case 11:
		return fmt.Sprintf("Rename(%q, %q)", name, other), fmt.Sprint(p.d.Rename(name, other)), fmt.Sprint(p.m.rename(name, other))
	case 12:
		return fmt.Sprintf("Remove(%q)", name), fmt.Sprint(p.d.Remove(name)), fmt.Sprint(p.m.remove(name))
	case 13:
		n = []int{1, 1 + p.roll(9), 0, -1, math.MinInt, math.MaxInt}[p.roll(p.roll(6)+1)]
		p.d.Arm(n, bits(keep))
		p.m.arm(n, keep)
		return fmt.Sprintf("Arm(%d, %s)", n, keep), "", ""
	case 14:
		p.d.Crash(bits(keep))
		p.m.crash(keep)
		return fmt.Sprintf("Crash(%s)", keep), "", ""
	default:
		p.d.Restart()
		p.m.down = false
		return "Restart()", "", ""
	}
}

func (p *pair) size(name string) (call, got, want string) {
	n, err := p.d.Size(name)
	wantErr := p.m.on(name)
	size := 0
	if wantErr == api.OK {
		size = len(p.m.now[name])
	}
	return fmt.Sprintf("Size(%q)", name), fmt.Sprint(n, err), fmt.Sprint(size, wantErr)
}

// differ tells what of both differs that no operation is needed for.
func (p *pair) differ() string {
	got := fmt.Sprintf("down %v, %d operations, %d of %d sectors", p.d.Down(), p.d.Ops(), p.d.Used(), p.d.Room())
	want := fmt.Sprintf("down %v, %d operations, %d of %d sectors", p.m.down, p.m.ops, p.m.used(), p.m.room)
	if got != want {
		return got + ", want " + want
	}
	return ""
}

// TestModel: whatever is done in whatever order, a disk answers as the model does, and has the same files behind it.
func TestModel(t *testing.T) {
	for round := range 8000 {
		room := []int{-1, 0, 1, 3, 6, 10, 20, 50, math.MaxInt}[round%9]
		p := &pair{disk.New(room), newModel(room), uint64(round)}
		log := fmt.Sprintf("New(%d)", room)
		for range 50 {
			call, got, want := p.step()
			log += ", " + call
			if got != want {
				t.Fatalf("%s: %s, want %s", log, got, want)
			}
			if s := p.differ(); s != "" {
				t.Fatalf("%s: %s", log, s)
			}
		}
		p.d.Arm(0, nil)
		p.d.Restart()
		if got := look(t, p.d); !maps.Equal(got, p.m.now) {
			t.Fatalf("%s: the files are %q, want %q", log, got, p.m.now)
		}
		p.m.down = false
		p.d.Crash(nil)
		p.m.crash("")
		p.d.Restart()
		if got := look(t, p.d); !maps.Equal(got, p.m.now) {
			t.Fatalf("%s: what was synced is %q, want %q", log, got, p.m.now)
		}
	}
}

// TestAllKeeps: of some lengths, synced and now, by all that may be kept.
func TestAllKeeps(t *testing.T) {
	for _, synced := range []int{0, 1, 15, 16, 17, 31, 32, 40} {
		for _, now := range []int{0, 1, 16, 17, 32, 33, 47, 48, 50} {
			for x := range 1 << 6 {
				d, m := disk.New(99), newModel(99)
				for _, name := range []string{"g", "f"} {
					old, b := text('a', synced), text('a', 3)+text('A', max(now, 3)-3)
					zero := 0
					m.create(name)
					m.writeAt(name, nil, old)
					m.sync(name)
					m.writeAt(name, &zero, b)
					put(t, d, name, old)
					must(t, d.WriteAt(name, 0, []byte(b)))
				}
				keep := fmt.Sprintf("%06b", x)
				d.Crash(bits(keep))
				m.crash(keep)
				d.Restart()
				has(t, d, m.now)
				if t.Failed() {
					t.Fatalf("%d bytes synced, %d now, keep %s", synced, now, keep)
				}
			}
		}
	}
}
