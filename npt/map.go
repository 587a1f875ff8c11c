package npt

import (
	"matryoshka/api"
	"matryoshka/desc"
	"matryoshka/pte"
)

const allRights = api.Read | api.Write | api.Exec

func isFrame(frame int) bool { return frame >= 0 && frame < api.MaxFrames }

// areRights: without any an entry would lead to a table.
func areRights(rights int) bool { return rights >= 1 && rights <= allRights }

// Map maps a page.
func (t *Tables) Map(page, frame, rights int) api.Errno {
	return t.put(page, lastLevel, pte.Entry{Present: true, Rights: rights, Frame: frame})
}

// Large maps sixteen pages at once.
func (t *Tables) Large(page, frame, rights int) api.Errno {
	return t.put(page, largeLevel, pte.Entry{Present: true, Rights: rights, Large: true, Frame: frame})
}

// put lays a page's entry in a table of a level, and hangs the tables that lead there.
func (t *Tables) put(page, level int, e pte.Entry) api.Errno {
	if fault := t.putFault(page, level, e); fault != api.OK {
		return fault
	}
	for s := range t.way(page, level) {
		if s.in.level == level {
			t.lay(s.at, e)
		} else if !s.entry.Present {
			// It was counted that there are frames for all of these.
			t.hang(s.at, nothing)
		}
	}
	return api.OK
}

// putFault is why an entry can't be laid for a page. It counts frames ahead of the first one that is taken, so that none has to be given back.
func (t *Tables) putFault(page, level int, e pte.Entry) api.Errno {
	if fault := t.fault(page); fault != api.OK {
		return fault
	}
	end, span := t.end(page, level), pte.Span(level)
	switch {
	case !isFrame(e.Frame):
		return api.ErrRange
	case !areRights(e.Rights):
		return api.ErrRight
	case page%span != 0 || e.Frame%span != 0: // never of one page alone
		return api.ErrAlign
	case end.entry.Present:
		return api.ErrTwice
	case end.in.level-level > t.p.Count(desc.Free):
		return api.ErrFrame
	}
	return api.OK
}

// find is where a mapped page's way ends.
func (t *Tables) find(page int) (stop, api.Errno) {
	if fault := t.fault(page); fault != api.OK {
		return stop{}, fault
	}
	s := t.end(page, lastLevel)
	if !s.entry.Present {
		return stop{}, api.ErrNone
	}
	return s, api.OK
}

// alone is where a page's own entry stands: a large one, which is others' too, is split.
func (t *Tables) alone(page int, s stop) (stop, api.Errno) {
	if !s.entry.Large {
		return s, api.OK
	}
	if fault := t.hang(s.at, s.part); fault != api.OK {
		return stop{}, fault
	}
	return t.end(page, lastLevel), api.OK
}

// Query is a page's frame and rights.
func (t *Tables) Query(page int) (int, int, api.Errno) {
	s, fault := t.find(page)
	if fault != api.OK {
		return 0, 0, fault
	}
	return s.leadsTo(page), s.entry.Rights, api.OK
}

// Unmap takes a page away, and tells the frame to which it was mapped.
func (t *Tables) Unmap(page int) (int, api.Errno) {
	s, fault := t.find(page)
	if fault != api.OK {
		return 0, fault
	}
	if s, fault = t.alone(page, s); fault != api.OK {
		return 0, fault
	}
	t.lay(s.at, pte.Entry{})
	t.thin(page)
	return s.entry.Frame, api.OK
}

// Protect gives a page other rights.
func (t *Tables) Protect(page, rights int) api.Errno {
	if fault := t.fault(page); fault != api.OK {
		return fault
	}
	if !areRights(rights) {
		return api.ErrRight
	}
	s, fault := t.find(page)
	if fault != api.OK || s.entry.Rights == rights {
		return fault
	}
	if s, fault = t.alone(page, s); fault != api.OK {
		return fault
	}
	s.entry.Rights = rights
	t.lay(s.at, s.entry)
	return api.OK
}
