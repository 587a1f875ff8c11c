package tlb

import "matryoshka/api"

const allRights = api.Read | api.Write | api.Exec

// Line is what was found.
type Line struct{ Tag, Page, Frame, Rights int }

// key is what a line is looked for by.
type key struct{ tag, page int }

func (k key) finds(l Line) bool { return key{l.Tag, l.Page} == k }

// canBe tells whether a line may be filled in.
func (l Line) canBe() bool {
	return l.Tag >= 1 && l.Tag <= api.MaxVms &&
		l.Page >= 0 && l.Page < api.MaxPages &&
		l.Frame >= 0 && l.Frame < api.MaxFrames &&
		l.Rights >= 1 && l.Rights <= allRights
}

// allows tells whether what is wanted is among a line's rights. What can't be wanted has bits that no line's rights have.
func (l Line) allows(want int) bool { return want&^l.Rights == 0 }
