package record

import (
	"cartage/api"
	"cartage/block"
	"cartage/disk"
	"cartage/octets"
)

// Reader reads records one by one (I2).
type Reader struct {
	d     *disk.Disk
	name  string
	size  int       // of the file, when the reader was made
	at    int       // where the next block begins
	text  []byte    // what is left of the block ahead of that
	short bool      // that block was not full, so no other may stand behind it
	err   api.Errno // that came, and stays
}

// NewReader tells a reader of a file's records, as they are now (I2).
func NewReader(d *disk.Disk, name string) (*Reader, api.Errno) {
	if d == nil {
		return nil, api.ErrArg
	}
	size, err := d.Size(name)
	if err != api.OK {
		return nil, err
	}
	return &Reader{d: d, name: name, size: size}, api.OK
}

// Next tells the next record, if there is one (I2).
func (r *Reader) Next() (api.Rec, bool, api.Errno) {
	if r == nil {
		return api.Rec{}, false, api.ErrState
	}
	if r.err == api.OK && len(r.text) == 0 && r.at < r.size {
		r.err = r.load()
	}
	if len(r.text) == 0 {
		return api.Rec{}, false, r.err
	}
	key, _ := octets.Get(r.text, 0, numSize)
	val, _ := octets.Get(r.text, numSize, numSize)
	r.text = r.text[recSize:]
	return api.Rec{Key: key, Val: val}, true, api.OK
}

// load has the reader hold the next block.
func (r *Reader) load() api.Errno {
	text, size, err := r.next()
	if err != api.OK {
		return err
	}
	if r.short || !right(text) {
		return api.ErrForm
	}
	r.text, r.at, r.short = text, r.at+size, len(text) < fullText
	return api.OK
}

// next tells the text of the next block, and how many bytes the block has.
func (r *Reader) next() ([]byte, int, api.Errno) {
	text, size, err := r.decode(fullText + around)
	if err == api.ErrForm && r.size-r.at > fullText+around {
		// It may be a block whose text is longer than that of any records: its sum is asked ahead of that.
		return r.decode(api.MaxBlock + around)
	}
	return text, size, err
}

// decode tells the text of the block that the next bytes begin with, at most so many, and how many bytes the block has.
func (r *Reader) decode(most int) ([]byte, int, api.Errno) {
	b, err := r.d.ReadAt(r.name, r.at, min(most, r.size-r.at))
	if err != api.OK {
		return nil, 0, err
	}
	return block.Decode(b)
}

// right tells whether a text is one of from 1 to Many records.
func right(text []byte) bool {
	return len(text) >= recSize && len(text) <= fullText && len(text)%recSize == 0
}
