package tlb

import (
	"slices"

	"matryoshka/api"
)

// Fill lays a line.
func (t *Tlb) Fill(l Line) api.Errno {
	switch {
	case t.isNone():
		return api.ErrNil
	case !l.canBe():
		return api.ErrArg
	}
	if !t.Flush(l.Tag, l.Page) && len(t.lines) == t.size {
		t.lines = t.lines[1:]
	}
	t.lines = append(upTo(t.lines, len(t.lines)), l)
	return api.OK
}

// Flush takes a line away.
func (t *Tlb) Flush(tag, page int) bool {
	return t.take(key{tag, page}.finds) > 0
}

// Forget takes a tag's lines away.
func (t *Tlb) Forget(tag int) int {
	return t.take(func(l Line) bool { return l.Tag == tag })
}

// Drop takes a frame's lines away.
func (t *Tlb) Drop(frame int) int {
	return t.take(func(l Line) bool { return l.Frame == frame })
}

// take takes away all lines that go, and tells how many.
func (t *Tlb) take(goes func(Line) bool) int {
	if t.isNone() {
		return 0
	}
	first := slices.IndexFunc(t.lines, goes)
	if first < 0 {
		return 0
	}
	rest := upTo(t.lines, first)
	for _, l := range t.lines[first+1:] {
		if !goes(l) {
			rest = append(rest, l)
		}
	}
	gone := len(t.lines) - len(rest)
	t.lines = rest
	return gone
}

// upTo is the lines before a place, without room behind them: what is appended comes into new memory, and not upon lines that a copy has.
func upTo(lines []Line, end int) []Line { return lines[:end:end] }
