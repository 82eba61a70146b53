package disk

import (
	"bytes"
	"slices"

	"cartage/api"
)

// Arm has the disk crash ahead of the n-th operation from now on, by keep (C2).
func (d *Disk) Arm(n int, keep []bool) {
	d.left, d.keep = 0, nil
	if n >= 1 {
		d.left, d.keep = n, slices.Clone(keep)
	}
}

// Crash tears what is not synced, by keep, and the disk is down (C2).
func (d *Disk) Crash(keep []bool) {
	if d.down {
		return
	}
	counted := 0
	stays := func() bool {
		i := counted
		counted++
		return i < len(keep) && keep[i]
	}
	d.used = 0
	for _, name := range d.names() {
		f := d.files[name]
		f.tear(stays)
		d.used += sectors(len(f.now))
	}
	d.Arm(0, nil)
	d.down = true
}

// Restart has the disk up again (C2).
func (d *Disk) Restart() { d.down = false }

// Down tells whether the disk is down (C2).
func (d *Disk) Down() bool { return d.down }

// Ops tells how many operations there were (C2).
func (d *Disk) Ops() int { return int(d.ops.Load()) }

// Used tells how many sectors all files have now (C2).
func (d *Disk) Used() int { return d.used }

// Room tells how many sectors all files may have (C2).
func (d *Disk) Room() int { return d.room }

// approach comes one operation nearer to the one that a crash is armed for.
func (d *Disk) approach() {
	if d.left == 0 {
		return
	}
	d.left--
	if d.left > 0 {
		return
	}
	keep := d.keep
	// If the disk is down as it is, it does not crash again; but its operation has come, so nothing is armed any more.
	d.Arm(0, nil)
	d.Crash(keep)
}

// tear lets of each sector that is not synced stay what stays, asked for one behind the other, tells of it.
func (f *file) tear(stays func() bool) {
	rest := slices.Clone(f.synced)
	for at := 0; at < len(f.now); at += api.Sector {
		end := min(at+api.Sector, len(f.now))
		if f.same(at, end) || !stays() {
			continue
		}
		if end > len(rest) {
			rest = append(rest, make([]byte, end-len(rest))...)
		}
		copy(rest[at:], f.now[at:end])
	}
	f.now, f.synced = rest, slices.Clone(rest)
}

// same tells whether the bytes from at to end are as they were synced.
func (f *file) same(at, end int) bool {
	return end <= len(f.synced) && bytes.Equal(f.now[at:end], f.synced[at:end])
}
