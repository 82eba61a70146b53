package record

import (
	"cartage/api"
	"cartage/block"
	"cartage/disk"
	"cartage/octets"
)

// Writer writes records one by one (I2). A zero one is closed.
type Writer struct {
	d    *disk.Disk
	name string
	text []byte // of the block that is not full yet
}

// NewWriter makes a file, and tells a writer of its records (I2).
func NewWriter(d *disk.Disk, name string) (*Writer, api.Errno) {
	if d == nil {
		return nil, api.ErrArg
	}
	if err := d.Create(name); err != api.OK {
		return nil, err
	}
	return &Writer{d: d, name: name}, api.OK
}

// Put writes one record more (I2).
func (w *Writer) Put(r api.Rec) api.Errno {
	if w.closed() {
		return api.ErrState
	}
	w.text = append(w.text, octets.Put(octets.Put(nil, numSize, r.Key), numSize, r.Val)...)
	if len(w.text) < fullText {
		return api.OK
	}
	return w.flush()
}

// Close has the file be all that was put, and last (I2).
func (w *Writer) Close() api.Errno {
	if w.closed() {
		return api.ErrState
	}
	if len(w.text) > 0 {
		if err := w.flush(); err != api.OK {
			return err
		}
	}
	err := w.d.Sync(w.name)
	w.end()
	return err
}

// closed tells whether nothing may be put any more: behind Close, or an error, that of NewWriter (which tells no writer)
// among them.
func (w *Writer) closed() bool { return w == nil || w.d == nil }

// flush appends the block of what was put since the last one.
func (w *Writer) flush() api.Errno {
	b, err := block.Encode(w.text)
	if err == api.OK {
		err = w.d.Append(w.name, b)
	}
	if err != api.OK {
		w.end()
		return err
	}
	w.text = w.text[:0]
	return api.OK
}

// end closes the writer, and lets go of what it holds.
func (w *Writer) end() { *w = Writer{} }
