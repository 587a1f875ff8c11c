package desc

import (
	"matryoshka/api"
	"matryoshka/field"
)

// The fields of a descriptor's word, from the bit 0 on.
const (
	kindBits  = 4
	ownerBits = 8
	refsBits  = 16
	gapBits   = 4
	epochBits = 32
)

// Pack is a descriptor's word.
func Pack(d Desc) (uint64, api.Errno) {
	if !Right(d) {
		return 0, api.ErrForm
	}
	return field.Pack(
		field.Part{V: uint64(d.Kind), Size: kindBits},
		field.Part{V: uint64(d.Owner), Size: ownerBits},
		field.Part{V: uint64(d.Refs), Size: refsBits},
		field.Part{V: 0, Size: gapBits},
		field.Part{V: uint64(d.Epoch), Size: epochBits},
	), api.OK
}

// Parse is the right descriptor whose word it is. What is read must be packed as that word again: so bits between the fields are none of a descriptor's.
func Parse(w uint64) (Desc, bool) {
	d := read(w)
	if again, e := Pack(d); e != api.OK || again != w {
		return Desc{}, false
	}
	return d, true
}

// read is what stands in the fields of a word, right or not.
func read(w uint64) Desc {
	l := field.Split(w, []int{kindBits, ownerBits, refsBits, gapBits, epochBits})
	return Desc{Kind: int(l[0]), Owner: int(l[1]), Refs: int(l[2]), Epoch: int(l[4])}
}
