package shard

import (
	"strconv"

	"cartage/api"
	"cartage/disk"
	"cartage/extsort"
	"cartage/part"
	"cartage/record"
)

// fan is how many rows are merged at once. More need fewer operations, but a block of each is held.
const fan = 16

// builder makes the shards of one graph, by way of a file for each that has its edges as they come.
type builder struct {
	d              *disk.Disk
	shards, budget int
	parts          []string // the names of the files on the way, by their shards
	last           int      // the number of a file on the way that was tried last
	made           int      // of shards, whose files on the way are needed no more
}

func (b *builder) build(g api.Graph) api.Errno {
	if err := b.split(g); err != api.OK {
		return err
	}
	for b.made < b.shards {
		if err := b.sort(); err != api.OK {
			return err
		}
	}
	return api.OK
}

// split writes each edge to the file on the way to its shard.
func (b *builder) split(g api.Graph) api.Errno {
	to := make([]*record.Writer, b.shards)
	for i := range to {
		w, err := b.begin()
		if err != api.OK {
			return err
		}
		to[i] = w
	}
	for _, e := range g.Edges {
		i, _ := part.Of(g.N, b.shards, int(e.To)) // there is one, as the graph is right
		if err := to[i].Put(rec(e)); err != api.OK {
			return err
		}
	}
	for _, w := range to {
		if err := w.Close(); err != api.OK {
			return err
		}
	}
	return api.OK
}

// begin makes the file on the way to the next shard, by the next number that no file has: what others have by such a name
// stays.
func (b *builder) begin() (*record.Writer, api.Errno) {
	for {
		b.last++
		name := "part." + strconv.Itoa(b.last)
		w, err := record.NewWriter(b.d, name)
		if err == api.OK {
			b.parts = append(b.parts, name)
		}
		if err != api.ErrIs {
			return w, err
		}
	}
}

// sort makes the next shard, and removes the file on the way there.
func (b *builder) sort() api.Errno {
	in := b.parts[b.made]
	if _, err := extsort.Sort(b.d, in, Name(b.made), "run", b.budget, fan, api.Keep); err != api.OK {
		return err
	}
	b.made++
	return b.d.Remove(in)
}

// undo removes all that was made, if the disk is up.
func (b *builder) undo() {
	if b.d.Down() {
		return
	}
	for i := range b.made {
		b.d.Remove(Name(i))
	}
	for _, name := range b.parts[b.made:] {
		b.d.Remove(name)
	}
}
