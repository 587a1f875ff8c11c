package npt

import (
	"iter"

	"matryoshka/api"
	"matryoshka/pte"
)

const (
	rootLevel  = 3
	largeLevel = 1
	lastLevel  = 0
)

// table is one of the tables.
type table struct {
	frame, level int
}

func (t *Tables) top() table { return table{t.root, rootLevel} }

// next is the table to which an entry of a table leads, if it does.
func (in table) next(e pte.Entry) (table, bool) {
	if in.level == lastLevel || !pte.Table(e) {
		return table{}, false
	}
	return table{e.Frame, in.level - 1}, true
}

// stop is a place on a page's way: an entry, and where it stands.
type stop struct {
	in    table
	at    int // its word
	entry pte.Entry
}

// leadsTo is the frame of a page whose way ends at a stop: a large entry's frames lie side by side.
func (s stop) leadsTo(page int) int { return s.entry.Frame + page%pte.Span(s.in.level) }

// words is a table's. They are not loaded, since a call with an error is to leave what the memory counts as it was.
func (t *Tables) words(in table) []uint64 {
	return t.m.Words(pte.At(in.frame, 0, lastLevel), api.FrameWords)
}

// stop is the page's place in a table.
func (t *Tables) stop(in table, page int) stop {
	s := stop{in: in, at: pte.At(in.frame, page, in.level)}
	for _, word := range t.m.Words(s.at, 1) {
		s.entry, _ = pte.Parse(word)
	}
	return s
}

// way hands on a page's stops, from the root down to a level, as far as tables lead.
func (t *Tables) way(page, lowest int) iter.Seq[stop] {
	return func(yield func(stop) bool) {
		in, ok := t.top(), true
		for ok && in.level >= lowest {
			if !yield(t.stop(in, page)) {
				return
			}
			// The entry is asked for again: whoever goes the way may have hung a table there.
			in, ok = in.next(t.stop(in, page).entry)
		}
	}
}

// end is the last stop of a page's way down to a level.
func (t *Tables) end(page, lowest int) stop {
	var last stop
	for s := range t.way(page, lowest) {
		last = s
	}
	return last
}

// below hands on the tables to which a table's entries lead.
func (t *Tables) below(in table) iter.Seq[table] {
	return func(yield func(table) bool) {
		for _, word := range t.words(in) {
			e, _ := pte.Parse(word)
			if next, ok := in.next(e); ok && !yield(next) {
				return
			}
		}
	}
}

// gather is something, and all that lies below it.
func gather[T any](top T, below func(T) iter.Seq[T]) []T {
	all := []T{top}
	for i := 0; i < len(all); i++ {
		for one := range below(all[i]) {
			all = append(all, one)
		}
	}
	return all
}
