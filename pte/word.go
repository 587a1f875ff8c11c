package pte

import (
	"matryoshka/api"
	"matryoshka/field"
)

// The fields of an entry's word, from the bit 0 on.
const (
	presentBits = 1
	rightsBits  = 3
	largeBits   = 1
	gapBits     = 7
	frameBits   = 12
)

// Pack is an entry's word.
func Pack(e Entry) (uint64, api.Errno) {
	if !Right(e) {
		return 0, api.ErrForm
	}
	return field.Pack(
		field.Part{V: bit(e.Present), Size: presentBits},
		field.Part{V: uint64(e.Rights), Size: rightsBits},
		field.Part{V: bit(e.Large), Size: largeBits},
		field.Part{V: 0, Size: gapBits},
		field.Part{V: uint64(e.Frame), Size: frameBits},
	), api.OK
}

// Parse is the right entry whose word it is. What is read must be packed as that word again: so the bits that are no field's are none of an entry's.
func Parse(w uint64) (Entry, bool) {
	e := read(w)
	if again, fault := Pack(e); fault != api.OK || again != w {
		return Entry{}, false
	}
	return e, true
}

// read is what stands in the fields of a word, right or not.
func read(w uint64) Entry {
	l := field.Split(w, []int{presentBits, rightsBits, largeBits, gapBits, frameBits})
	return Entry{Present: l[0] == 1, Rights: int(l[1]), Large: l[2] == 1, Frame: int(l[4])}
}

func bit(is bool) uint64 {
	if is {
		return 1
	}
	return 0
}
