package disk_test

import (
	"bytes"
	"maps"
	"math"
	"slices"
	"strings"
	"testing"

	"cartage/api"
	"cartage/disk"
)

// text tells size bytes, none of them 0, that differ from place to place and from mark to mark.
func text(mark byte, size int) string {
	var b strings.Builder
	for i := range size {
		b.WriteByte(mark + byte(i%23))
	}
	return b.String()
}

// must asks for OK.
func must(t *testing.T, errs ...api.Errno) {
	t.Helper()
	for i, err := range errs {
		if err != api.OK {
			t.Fatalf("call %d: %v", i, err)
		}
	}
}

// put makes a file with these bytes, synced.
func put(t *testing.T, d *disk.Disk, name, s string) {
	t.Helper()
	must(t, d.Create(name), d.Append(name, []byte(s)), d.Sync(name))
}

// look tells all files as they are now, by operations.
func look(t *testing.T, d *disk.Disk) map[string]string {
	t.Helper()
	l, err := d.List()
	must(t, err)
	if !slices.IsSorted(l) {
		t.Fatalf("List: %q", l)
	}
	all := map[string]string{}
	for _, name := range l {
		n, err := d.Size(name)
		must(t, err)
		b, err := d.ReadAt(name, 0, n)
		must(t, err)
		if len(b) != n {
			t.Fatalf("%q has %d bytes, %d are read", name, n, len(b))
		}
		all[name] = string(b)
	}
	return all
}

// has asks for just these files, and for as many sectors as they need.
func has(t *testing.T, d *disk.Disk, want map[string]string) {
	t.Helper()
	if got := look(t, d); !maps.Equal(got, want) {
		t.Errorf("the files are %q, want %q", got, want)
	}
	used := 0
	for _, s := range want {
		used += (len(s) + 15) / 16
	}
	if d.Used() != used {
		t.Errorf("%d sectors are used, want %d", d.Used(), used)
	}
}

// operation is a call that is one, on a file; what it answers beside the error must be nothing if that is one.
type operation struct {
	name string
	call func(d *disk.Disk, file string) api.Errno
}

// onFiles has the operations that ask for a file that there is, each with arguments that may be, and that may not.
func onFiles(t *testing.T) []operation {
	long := make([]byte, 10000)
	read := func(at, n int) func(d *disk.Disk, file string) api.Errno {
		return func(d *disk.Disk, file string) api.Errno {
			b, err := d.ReadAt(file, at, n)
			if err != api.OK && len(b) != 0 {
				t.Errorf("ReadAt(%q, %d, %d) = %x beside %v", file, at, n, b, err)
			}
			return err
		}
	}
	return []operation{
		{"Append", func(d *disk.Disk, file string) api.Errno { return d.Append(file, []byte("x")) }},
		{"Append of nothing", func(d *disk.Disk, file string) api.Errno { return d.Append(file, nil) }},
		{"Append of much", func(d *disk.Disk, file string) api.Errno { return d.Append(file, long) }},
		{"WriteAt", func(d *disk.Disk, file string) api.Errno { return d.WriteAt(file, 0, []byte("x")) }},
		{"WriteAt of much", func(d *disk.Disk, file string) api.Errno { return d.WriteAt(file, 0, long) }},
		{"WriteAt below 0", func(d *disk.Disk, file string) api.Errno { return d.WriteAt(file, -1, nil) }},
		{"WriteAt far behind", func(d *disk.Disk, file string) api.Errno { return d.WriteAt(file, math.MaxInt, long) }},
		{"ReadAt", read(0, 0)},
		{"ReadAt below 0", read(-1, -1)},
		{"ReadAt far behind", read(math.MaxInt, math.MaxInt)},
		{"Size", func(d *disk.Disk, file string) api.Errno {
			n, err := d.Size(file)
			if err != api.OK && n != 0 {
				t.Errorf("Size(%q) = %d beside %v", file, n, err)
			}
			return err
		}},
		{"Sync", func(d *disk.Disk, file string) api.Errno { return d.Sync(file) }},
		{"Rename", func(d *disk.Disk, file string) api.Errno { return d.Rename(file, "other") }},
		{"Rename to itself", func(d *disk.Disk, file string) api.Errno { return d.Rename(file, file) }},
		{"Rename to none", func(d *disk.Disk, file string) api.Errno { return d.Rename(file, "") }},
		{"Remove", func(d *disk.Disk, file string) api.Errno { return d.Remove(file) }},
	}
}

// operations has all of them.
func operations(t *testing.T) []operation {
	return append(onFiles(t),
		operation{"Create", func(d *disk.Disk, file string) api.Errno { return d.Create(file) }},
		operation{"Create of none", func(d *disk.Disk, file string) api.Errno { return d.Create("") }},
		operation{"List", func(d *disk.Disk, file string) api.Errno {
			l, err := d.List()
			if err != api.OK && len(l) != 0 {
				t.Errorf("List() = %q beside %v", l, err)
			}
			return err
		}})
}

func TestNew(t *testing.T) {
	for _, c := range []struct{ room, want int }{
		{0, 0}, {1, 1}, {100, 100}, {-1, 0}, {-4, 0}, {math.MinInt, 0}, {math.MaxInt, math.MaxInt},
	} {
		d := disk.New(c.room)
		if d.Room() != c.want || d.Used() != 0 || d.Ops() != 0 || d.Down() {
			t.Errorf("New(%d): room %d, used %d, %d operations, down %v", c.room, d.Room(), d.Used(), d.Ops(), d.Down())
		}
		has(t, d, map[string]string{})
	}
}

func TestNames(t *testing.T) {
	for _, c := range []struct {
		name string
		ok   bool
	}{
		{"", false},
		{"a", true},
		{"\x00", true},
		{"\xff\xfe", true},
		{"../a b", true},
		{strings.Repeat("n", 23), true},
		{strings.Repeat("n", 24), true},
		{strings.Repeat("n", 25), false},
		{strings.Repeat("n", 1000), false},
		{strings.Repeat("é", 12), true}, // bytes are counted, not letters
		{strings.Repeat("é", 12) + "a", false},
		{strings.Repeat("é", 24), false},
	} {
		want, created, renamed := api.OK, map[string]string{c.name: ""}, map[string]string{c.name: "x"}
		if !c.ok {
			want, created, renamed = api.ErrArg, map[string]string{}, map[string]string{"from": "x"}
		}
		d := disk.New(9)
		if err := d.Create(c.name); err != want {
			t.Errorf("Create(%q) = %v, want %v", c.name, err, want)
		}
		has(t, d, created)
		d = disk.New(9)
		put(t, d, "from", "x")
		if err := d.Rename("from", c.name); err != want {
			t.Errorf("Rename(from, %q) = %v, want %v", c.name, err, want)
		}
		has(t, d, renamed)
	}
}

func TestCreate(t *testing.T) {
	d := disk.New(9)
	put(t, d, "a", "xyz")
	if err := d.Create("a"); err != api.ErrIs {
		t.Errorf("Create of a file that there is: %v", err)
	}
	must(t, d.Create("b"))
	if err := d.Create("b"); err != api.ErrIs {
		t.Errorf("Create of a file that there is, without bytes: %v", err)
	}
	has(t, d, map[string]string{"a": "xyz", "b": ""})
	must(t, d.Remove("a"), d.Create("a"), d.Rename("b", "c"), d.Create("b"))
	has(t, d, map[string]string{"a": "", "b": "", "c": ""})
	if err := d.Create("c"); err != api.ErrIs {
		t.Errorf("Create of a file that was renamed: %v", err)
	}
}

// TestNone: whatever else is wrong, and whatever the name, that there is no such file is told first.
func TestNone(t *testing.T) {
	for _, o := range onFiles(t) {
		for _, file := range []string{"c", "", "A", "a\x00", "aa", strings.Repeat("n", 25)} {
			d := disk.New(2)
			put(t, d, "a", "xyz")
			put(t, d, "other", "uvw")
			if err := o.call(d, file); err != api.ErrNone {
				t.Errorf("%s of %q: %v", o.name, file, err)
			}
			has(t, d, map[string]string{"a": "xyz", "other": "uvw"})
		}
	}
}

// TestDown: whatever else is wrong, that the disk is down is told first, and nothing is done.
func TestDown(t *testing.T) {
	for _, o := range operations(t) {
		for _, file := range []string{"a", "b", ""} {
			d := disk.New(2)
			put(t, d, "a", "xyz")
			put(t, d, "other", "uvw")
			d.Crash(nil)
			for range 2 {
				if err := o.call(d, file); err != api.ErrDown {
					t.Errorf("%s of %q: %v", o.name, file, err)
				}
			}
			if d.Ops() != 8 || !d.Down() {
				t.Errorf("%s of %q: %d operations, down %v", o.name, file, d.Ops(), d.Down())
			}
			d.Restart()
			has(t, d, map[string]string{"a": "xyz", "other": "uvw"})
		}
	}
}

func TestWriteAt(t *testing.T) {
	for _, c := range []struct {
		had  string
		at   int
		b    string
		want string
	}{
		{"", 0, "", ""},
		{"", 0, "xyz", "xyz"},
		{"abcdef", 0, "xyz", "xyzdef"},
		{"abcdef", 2, "xyz", "abxyzf"},
		{"abcdef", 3, "xyz", "abcxyz"},
		{"abcdef", 4, "xyz", "abcdxyz"},
		{"abcdef", 5, "xyz", "abcdexyz"},
		{"abcdef", 6, "xyz", "abcdefxyz"},
		{"abcdef", 0, "uvwxyz", "uvwxyz"},
		{"abcdef", 0, "tuvwxyz", "tuvwxyz"},
		{"abcdef", 3, "", "abcdef"},
		{"abcdef", 6, "", "abcdef"},
		{"abcdef", 1, "\x00", "a\x00cdef"},
		{text('a', 40), 15, "xyz", text('a', 40)[:15] + "xyz" + text('a', 40)[18:]},
		{text('a', 40), 39, text('A', 50), text('a', 39) + text('A', 50)},
	} {
		d := disk.New(9)
		put(t, d, "f", c.had)
		put(t, d, "g", "another")
		must(t, d.WriteAt("f", c.at, []byte(c.b)))
		has(t, d, map[string]string{"f": c.want, "g": "another"})
	}
}

func TestWriteAtRefuses(t *testing.T) {
	for _, size := range []int{0, 1, 15, 16, 17, 40} {
		for _, at := range []int{-1, -16, math.MinInt, size + 1, size + 16, math.MaxInt - 1, math.MaxInt} {
			for _, n := range []int{0, 1, 16, 1000} { // the place is asked ahead of the room
				d := disk.New(4)
				put(t, d, "f", text('a', size))
				if err := d.WriteAt("f", at, make([]byte, n)); err != api.ErrArg {
					t.Errorf("WriteAt of %d bytes at %d of %d: %v", n, at, size, err)
				}
				has(t, d, map[string]string{"f": text('a', size)})
			}
		}
	}
}

func TestAppend(t *testing.T) {
	d := disk.New(99)
	must(t, d.Create("f"), d.Create("g"))
	want := ""
	for i := range 50 {
		s := text(byte('a'+i), i)
		must(t, d.Append("f", []byte(s)))
		want += s
		has(t, d, map[string]string{"f": want, "g": ""})
	}
}

func TestReadAt(t *testing.T) {
	s := text('a', 40)
	d := disk.New(9)
	put(t, d, "f", s)
	must(t, d.Create("none"))
	for at := -2; at <= len(s)+2; at++ {
		for n := -2; n <= len(s)+2; n++ {
			b, err := d.ReadAt("f", at, n)
			if at < 0 || n < 0 || at+n > len(s) {
				if err != api.ErrArg || len(b) != 0 {
					t.Errorf("ReadAt(f, %d, %d) = %q, %v", at, n, b, err)
				}
			} else if err != api.OK || string(b) != s[at:at+n] {
				t.Errorf("ReadAt(f, %d, %d) = %q, %v", at, n, b, err)
			}
		}
	}
	for _, c := range [][2]int{{math.MaxInt, 1}, {1, math.MaxInt}, {math.MaxInt, math.MaxInt}, {math.MinInt, math.MaxInt}, {math.MinInt, math.MinInt}, {math.MaxInt, math.MinInt}, {math.MaxInt, 0}, {0, math.MaxInt}, {0, math.MinInt}, {-1, 1}, {-1, 2}, {2, -1}} {
		for _, name := range []string{"f", "none"} {
			if b, err := d.ReadAt(name, c[0], c[1]); err != api.ErrArg || len(b) != 0 {
				t.Errorf("ReadAt(%s, %d, %d) = %q, %v", name, c[0], c[1], b, err)
			}
		}
	}
	if b, err := d.ReadAt("none", 0, 0); err != api.OK || len(b) != 0 {
		t.Errorf("ReadAt(none, 0, 0) = %q, %v", b, err)
	}
}

func TestSize(t *testing.T) {
	d := disk.New(9)
	put(t, d, "f", "")
	for _, c := range []struct {
		at   int
		b    string
		want int
	}{
		{0, "", 0}, {0, "x", 1}, {1, text('a', 19), 20}, {0, "xyz", 20}, {18, "xyz", 21},
	} {
		must(t, d.WriteAt("f", c.at, []byte(c.b)))
		if n, err := d.Size("f"); n != c.want || err != api.OK { // now, not as it was synced
			t.Errorf("%d, %v, want %d", n, err, c.want)
		}
	}
}

// TestSpace: sectors are counted over all files; what does not fit changes nothing.
func TestSpace(t *testing.T) {
	for _, c := range []struct {
		room  int
		sizes [2]int // of two files
		at    int    // in the first one
		n     int
		ok    bool
	}{
		{0, [2]int{0, 0}, 0, 0, true},
		{0, [2]int{0, 0}, 0, 1, false},
		{-7, [2]int{0, 0}, 0, 0, true},
		{-7, [2]int{0, 0}, 0, 1, false},
		{1, [2]int{0, 0}, 0, 16, true},
		{1, [2]int{0, 0}, 0, 17, false},
		{1, [2]int{0, 1}, 0, 1, false},
		{1, [2]int{0, 16}, 0, 0, true},
		{1, [2]int{1, 0}, 1, 15, true},
		{1, [2]int{1, 0}, 1, 16, false},
		{1, [2]int{16, 0}, 0, 16, true},
		{1, [2]int{16, 0}, 0, 17, false},
		{1, [2]int{16, 0}, 16, 0, true},
		{2, [2]int{1, 1}, 1, 15, true}, // each file has its own
		{2, [2]int{1, 1}, 1, 16, false},
		{3, [2]int{1, 1}, 1, 31, true},
		{3, [2]int{1, 1}, 1, 32, false},
		{5, [2]int{40, 32}, 39, 9, true},
		{5, [2]int{40, 32}, 39, 10, false},
		{5, [2]int{40, 32}, 0, 48, true},
		{5, [2]int{40, 32}, 0, 49, false},
		{5, [2]int{40, 32}, 0, 5000, false},
		{6, [2]int{40, 32}, 0, 64, true},
		{6, [2]int{40, 32}, 0, 65, false},
		{math.MaxInt, [2]int{40, 32}, 0, 5000, true},
	} {
		d := disk.New(c.room)
		f, g := text('a', c.sizes[0]), text('A', c.sizes[1])
		put(t, d, "f", f)
		put(t, d, "g", g)
		b := text('0', c.n)
		err := d.WriteAt("f", c.at, []byte(b))
		if c.ok {
			f = f[:c.at] + b + f[min(c.at+c.n, len(f)):]
		}
		if (err == api.OK) != c.ok || !c.ok && err != api.ErrSpace {
			t.Errorf("%+v: %v", c, err)
		}
		has(t, d, map[string]string{"f": f, "g": g})
		if d.Used() > d.Room() {
			t.Errorf("%+v: %d sectors of %d are used", c, d.Used(), d.Room())
		}
	}
}

func TestAppendSpace(t *testing.T) {
	d := disk.New(3)
	put(t, d, "f", text('a', 20))
	put(t, d, "g", "")
	for _, c := range []struct {
		name string
		n    int
		want api.Errno
	}{
		{"f", 29, api.ErrSpace}, {"g", 17, api.ErrSpace}, {"g", 16, api.OK}, {"f", 13, api.ErrSpace}, {"g", 1, api.ErrSpace}, {"f", 12, api.OK}, {"f", 1, api.ErrSpace}, {"f", 0, api.OK}, {"g", 0, api.OK},
	} {
		before := look(t, d)
		if err := d.Append(c.name, bytes.Repeat([]byte{'x'}, c.n)); err != c.want {
			t.Errorf("Append(%s, %d bytes) = %v, want %v", c.name, c.n, err, c.want)
		}
		if c.want == api.OK {
			before[c.name] += strings.Repeat("x", c.n)
		}
		has(t, d, before)
	}
}

// TestSpaceComesBack: what is gone makes room.
func TestSpaceComesBack(t *testing.T) {
	full := func() *disk.Disk {
		d := disk.New(4)
		put(t, d, "a", text('a', 33))
		put(t, d, "b", text('b', 16))
		if err := d.Append("b", []byte("x")); err != api.ErrSpace {
			t.Fatalf("a full disk: %v", err)
		}
		return d
	}
	d := full()
	must(t, d.Remove("a"), d.Append("b", make([]byte, 48)))
	if err := d.Append("b", []byte("x")); err != api.ErrSpace || d.Used() != 4 {
		t.Errorf("behind Remove: %v, %d sectors", err, d.Used())
	}
	d = full()
	must(t, d.Rename("b", "a"), d.Append("a", make([]byte, 48)))
	if err := d.Append("a", []byte("x")); err != api.ErrSpace || d.Used() != 4 {
		t.Errorf("behind Rename: %v, %d sectors", err, d.Used())
	}
	d = full()
	must(t, d.Rename("a", "a"), d.Rename("b", "c"))
	if err := d.Append("c", []byte("x")); err != api.ErrSpace || d.Used() != 4 {
		t.Errorf("behind Rename to no other: %v, %d sectors", err, d.Used())
	}
	d = disk.New(4)
	must(t, d.Create("a"), d.Append("a", make([]byte, 64)))
	d.Crash([]bool{false, true})
	d.Restart()
	must(t, d.Append("a", make([]byte, 32)))
	if err := d.Append("a", []byte("x")); err != api.ErrSpace || d.Used() != 4 {
		t.Errorf("behind a crash: %v, %d sectors", err, d.Used())
	}
}

func TestRename(t *testing.T) {
	for _, c := range []struct {
		from, to string
		err      api.Errno
		want     map[string]string
	}{
		{"a", "d", api.OK, map[string]string{"d": "of a", "b": "of b", "c": ""}},
		{"a", "b", api.OK, map[string]string{"b": "of a", "c": ""}},
		{"a", "c", api.OK, map[string]string{"b": "of b", "c": "of a"}},
		{"c", "a", api.OK, map[string]string{"a": "", "b": "of b"}},
		{"a", "a", api.OK, map[string]string{"a": "of a", "b": "of b", "c": ""}},
		{"c", "c", api.OK, map[string]string{"a": "of a", "b": "of b", "c": ""}},
		{"a", "", api.ErrArg, map[string]string{"a": "of a", "b": "of b", "c": ""}},
		{"a", strings.Repeat("n", 25), api.ErrArg, map[string]string{"a": "of a", "b": "of b", "c": ""}},
		{"d", "a", api.ErrNone, map[string]string{"a": "of a", "b": "of b", "c": ""}},
		{"d", "d", api.ErrNone, map[string]string{"a": "of a", "b": "of b", "c": ""}},
		{"d", "", api.ErrNone, map[string]string{"a": "of a", "b": "of b", "c": ""}},
		{"", "", api.ErrNone, map[string]string{"a": "of a", "b": "of b", "c": ""}},
	} {
		d := disk.New(9)
		put(t, d, "a", "of a")
		put(t, d, "b", "of b")
		put(t, d, "c", "")
		if err := d.Rename(c.from, c.to); err != c.err {
			t.Errorf("Rename(%q, %q) = %v, want %v", c.from, c.to, err, c.err)
		}
		has(t, d, c.want)
		d.Crash(nil) // it lasts at once, with what was synced
		d.Restart()
		has(t, d, c.want)
	}
}

// TestRenamedIsOne: behind Rename the file is known by the new name alone.
func TestRenamedIsOne(t *testing.T) {
	d := disk.New(9)
	put(t, d, "a", "of a")
	must(t, d.Rename("a", "b"), d.Append("b", []byte("more")), d.Create("a"), d.Append("a", []byte("new")))
	has(t, d, map[string]string{"a": "new", "b": "of amore"})
	must(t, d.Remove("a"))
	has(t, d, map[string]string{"b": "of amore"})
}

func TestRemove(t *testing.T) {
	d := disk.New(9)
	put(t, d, "a", "of a")
	put(t, d, "b", "of b")
	must(t, d.Remove("a"))
	has(t, d, map[string]string{"b": "of b"})
	if err := d.Remove("a"); err != api.ErrNone {
		t.Errorf("removed twice: %v", err)
	}
	for _, o := range onFiles(t) {
		if err := o.call(d, "a"); err != api.ErrNone {
			t.Errorf("%s of what was removed: %v", o.name, err)
		}
	}
	d.Crash(nil)
	d.Restart()
	has(t, d, map[string]string{"b": "of b"})
	must(t, d.Remove("b"))
	has(t, d, map[string]string{})
}

func TestList(t *testing.T) {
	rising := []string{"\x00", "\x00a", "-", "10", "2", "B", "Z", "_", "a", "a\x00", "a.0", "a.10", "a.2", "aB", "aa", "ab", "b", "z", "é", "\xff", "\xff\x00"}
	d := disk.New(0)
	if l, err := d.List(); err != api.OK || len(l) != 0 {
		t.Errorf("List() = %q, %v", l, err)
	}
	for i := range rising { // made in another order
		must(t, d.Create(rising[i*8%len(rising)]))
	}
	for range 20 {
		if l, err := d.List(); err != api.OK || !slices.Equal(l, rising) {
			t.Errorf("List() = %q, %v", l, err)
		}
	}
	must(t, d.Remove("\x00"), d.Rename("z", "A"))
	want := slices.Sorted(slices.Values(slices.Concat(slices.DeleteFunc(rising[1:], func(s string) bool { return s == "z" }), []string{"A"})))
	if l, err := d.List(); err != api.OK || !slices.Equal(l, want) {
		t.Errorf("List() = %q, %v, want %q", l, err, want)
	}
}

// TestHandedInStays is R1: what is handed in is neither changed nor kept.
func TestHandedInStays(t *testing.T) {
	d := disk.New(99)
	whole := []byte(text('a', 60))
	must(t, d.Create("f"), d.Append("f", whole[:20]), d.Sync("f"), d.WriteAt("f", 10, whole[20:40]), d.Append("f", whole[40:50]))
	if string(whole) != text('a', 60) {
		t.Errorf("what was handed in became %q", whole)
	}
	want := text('a', 60)[:10] + text('a', 60)[20:50]
	clear(whole)
	has(t, d, map[string]string{"f": want})
	d.Crash(nil)
	d.Restart()
	has(t, d, map[string]string{"f": text('a', 20)})
}

// TestAnswersAreNew is R1: what is handed out is the caller's, and the room behind it, too.
func TestAnswersAreNew(t *testing.T) {
	d := disk.New(99)
	put(t, d, "f", text('a', 40))
	put(t, d, "g", "of g")
	for _, c := range [][2]int{{0, 40}, {0, 10}, {5, 10}, {0, 0}, {40, 0}} {
		one, _ := d.ReadAt("f", c[0], c[1])
		two, _ := d.ReadAt("f", c[0], c[1])
		clear(one[:cap(one)])
		_ = append(one, text('A', 50)...)
		if string(two) != text('a', 40)[c[0]:c[0]+c[1]] {
			t.Errorf("two answers share bytes: %q", two)
		}
		must(t, d.WriteAt("f", 0, []byte(text('A', 40))))
		if string(two) != text('a', 40)[c[0]:c[0]+c[1]] {
			t.Errorf("the answer became %q", two)
		}
		must(t, d.WriteAt("f", 0, []byte(text('a', 40))))
		has(t, d, map[string]string{"f": text('a', 40), "g": "of g"})
	}
	l, _ := d.List()
	for i := range l {
		l[i] = "x"
	}
	has(t, d, map[string]string{"f": text('a', 40), "g": "of g"})
	d.Crash(nil)
	d.Restart()
	has(t, d, map[string]string{"f": text('a', 40), "g": "of g"})
}

// TestApart is R3: two disks have nothing to do with each other.
func TestApart(t *testing.T) {
	one, two := disk.New(1), disk.New(2)
	put(t, one, "f", "of one")
	put(t, two, "f", "of two")
	two.Arm(9, nil)
	must(t, one.Append("f", []byte("!")))
	one.Crash(nil)
	if two.Down() || one.Room() != 1 || two.Room() != 2 || one.Ops() != 4 || two.Ops() != 3 {
		t.Errorf("down %v, rooms %d, %d, operations %d, %d", two.Down(), one.Room(), two.Room(), one.Ops(), two.Ops())
	}
	has(t, two, map[string]string{"f": "of two"})
	one.Restart()
	has(t, one, map[string]string{"f": "of one"})
}

// TestZeroDisk: a disk that was not made by New has no room, but files (R2).
func TestZeroDisk(t *testing.T) {
	for _, x := range operations(t) {
		d := &disk.Disk{}
		if err := x.call(d, "f"); err == api.ErrDown {
			t.Errorf("%s: %v", x.name, err)
		}
	}
	d := &disk.Disk{}
	must(t, d.Create("f"), d.Rename("f", "g"), d.Sync("g"))
	if err := d.Append("g", []byte("x")); err != api.ErrSpace {
		t.Errorf("Append: %v", err)
	}
	has(t, d, map[string]string{"g": ""})
	d.Crash(nil)
	d.Restart()
	has(t, d, map[string]string{"g": ""})
}
