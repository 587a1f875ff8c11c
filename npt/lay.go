package npt

import (
	"slices"

	"matryoshka/api"
	"matryoshka/desc"
	"matryoshka/pte"
)

// lay can't fail: just right entries are handed in, and New saw to it that there are words for each frame.
func (t *Tables) lay(at int, e pte.Entry) {
	word, _ := pte.Pack(e)
	t.m.Store(at, word)
}

// nothing is the entries of an empty table.
func nothing(place int) pte.Entry { return pte.Entry{} }

// part is the entries that say together what a large one says.
func (s stop) part(place int) pte.Entry {
	return pte.Entry{Present: true, Rights: s.entry.Rights, Frame: s.entry.Frame + place}
}

// newTable takes a frame, and lays the entries of its places.
func (t *Tables) newTable(entry func(place int) pte.Entry) (int, api.Errno) {
	frame, fault := t.p.Take(desc.Table, t.owner)
	if fault != api.OK {
		return 0, fault
	}
	for place := range api.FrameWords {
		t.lay(pte.At(frame, place, lastLevel), entry(place))
	}
	return frame, api.OK
}

// hang makes an entry lead to a new table, whose words are laid first, so that nobody on the way there meets others.
func (t *Tables) hang(at int, entry func(place int) pte.Entry) api.Errno {
	frame, fault := t.newTable(entry)
	if fault != api.OK {
		return fault
	}
	t.lay(at, pte.Entry{Present: true, Frame: frame})
	return api.OK
}

// thin takes away tables on a page's way that have become empty, but the root, from the last one up.
func (t *Tables) thin(page int) {
	stops := slices.Collect(t.way(page, lastLevel))
	for i := len(stops) - 1; i > 0 && t.isEmpty(stops[i].in); i-- {
		t.lay(stops[i-1].at, pte.Entry{})
		t.retire(stops[i].in.frame)
	}
}

func (t *Tables) isEmpty(in table) bool {
	return !slices.ContainsFunc(t.words(in), func(word uint64) bool { return word != 0 })
}
