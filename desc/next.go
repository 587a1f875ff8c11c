package desc

import (
	"matryoshka/api"
	"matryoshka/field"
)

// ways is to which kinds there is a way from each kind, each with the bit of its number.
func ways() map[int]uint64 {
	return map[int]uint64{
		Free:    1<<Cached | 1<<Monitor | 1<<Table | 1<<Guest,
		Cached:  1<<Free | 1<<Monitor | 1<<Table | 1<<Guest,
		Monitor: 1<<Retired | 1<<Free,
		Table:   1<<Retired | 1<<Free,
		Guest:   1<<Retired | 1<<Free | 1<<Guest,
		Retired: 1 << Free,
	}
}

// isWay tells whether a frame of one kind may become one of another kind; to what is no kind there is no way, since field tells 0 where there is no bit.
func isWay(from, to int) bool {
	return field.Get(ways()[from], to, 1) == 1
}

// Next is the descriptor of a frame whose kind changes.
func Next(d Desc, kind, owner int) (Desc, api.Errno) {
	if kind == Retired {
		// Whose it was is still to be told while it waits to be free.
		owner = d.Owner
	}
	next := Desc{Kind: kind, Owner: owner}
	switch {
	case !Right(d):
		return Desc{}, api.ErrForm
	case d.Refs != 0:
		return Desc{}, api.ErrBusy
	case !isWay(d.Kind, kind):
		return Desc{}, api.ErrState
	case !Right(next):
		return Desc{}, api.ErrArg
	}
	return next, api.OK
}

// Ref is a descriptor with more refs; with fewer, if by is below 0.
func Ref(d Desc, by int) (Desc, api.Errno) {
	switch {
	case !Right(d):
		return Desc{}, api.ErrForm
	case rules[d.Kind].mostRefs == 0:
		return Desc{}, api.ErrState
	case !between(by, -d.Refs, maxRefs-d.Refs): // not by the sum, since that may wrap round
		return Desc{}, api.ErrRange
	}
	d.Refs += by
	return d, api.OK
}
