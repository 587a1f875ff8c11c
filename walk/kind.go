package walk

import (
	"matryoshka/api"
	"matryoshka/pte"
)

const (
	largeLevel = 1
	lastLevel  = 0
)

// kind is a kind of right entries, as they stand in tables of a level.
type kind struct {
	is      func(e pte.Entry, level int) bool
	becomes func(w *Walker, e pte.Entry) // what becomes of a walker that loaded one
}

// kinds is all of them: an entry is of the first one that it can be of, and the last one takes what is left.
func kinds() []kind {
	return []kind{
		{is: isAbsent, becomes: (*Walker).findNone},
		{is: leadsOn, becomes: (*Walker).goDown},
		{is: isLarge, becomes: (*Walker).reachPart},
		{is: isSmall, becomes: (*Walker).reach},
		{is: isElse, becomes: (*Walker).findWrong},
	}
}

func isAbsent(e pte.Entry, level int) bool { return !e.Present }

func leadsOn(e pte.Entry, level int) bool { return pte.Table(e) && level > lastLevel }

func isLarge(e pte.Entry, level int) bool { return e.Large && level == largeLevel }

func isSmall(e pte.Entry, level int) bool {
	return !pte.Table(e) && !e.Large && level == lastLevel
}

func isElse(e pte.Entry, level int) bool { return true }

func (w *Walker) findNone(e pte.Entry) { w.fail(api.ErrNone) }

func (w *Walker) findWrong(e pte.Entry) { w.fail(api.ErrForm) }

func (w *Walker) goDown(e pte.Entry) {
	w.frame = e.Frame
	w.level--
}

func (w *Walker) reach(e pte.Entry) { w.arrive(e, e.Frame) }

func (w *Walker) reachPart(e pte.Entry) {
	w.arrive(e, e.Frame+w.page%pte.Span(largeLevel))
}

// arrive ends a walker in a frame. A large entry's frames may run on beyond the last one that there is.
func (w *Walker) arrive(e pte.Entry, frame int) {
	if frame >= api.MaxFrames {
		w.fail(api.ErrForm)
		return
	}
	fault := api.OK
	if !pte.Allows(e, w.want) {
		fault = api.ErrRight
	}
	w.end(Found{Frame: frame, Rights: e.Rights, E: fault})
}
