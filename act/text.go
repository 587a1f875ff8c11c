package act

import (
	"math"
	"strconv"
	"strings"

	"matryoshka/api"
)

// form is how a kind is written: its word, the place, and this many numbers behind that.
type form struct {
	kind    int
	word    string
	numbers int
}

var forms = [...]form{
	{api.ActLoad, "load", 0},
	{api.ActStore, "store", 1},
	{api.ActCas, "cas", 2},
	{api.ActAdd, "add", 1},
}

// mostPieces is one more than any text has, so that a longer one is cut no further and still seen as too long.
const mostPieces = 5

func formOfKind(kind int) (form, bool) {
	for _, f := range forms {
		if f.kind == kind {
			return f, true
		}
	}
	return form{}, false
}

func formOfWord(word string) (form, bool) {
	for _, f := range forms {
		if f.word == word {
			return f, true
		}
	}
	return form{}, false
}

// shown is the numbers that are written behind the place; no, if one that isn't written would be lost.
func (f form) shown(a api.Act) ([]uint64, bool) {
	both := []uint64{a.A, a.B}
	for _, v := range both[f.numbers:] {
		if v != 0 {
			return nil, false
		}
	}
	return both[:f.numbers], true
}

// Show is an act as text; empty, if it has none.
func Show(a api.Act) string {
	f, ok := formOfKind(a.Kind)
	if !ok || a.At < 0 {
		return ""
	}
	numbers, ok := f.shown(a)
	if !ok {
		return ""
	}
	text := f.word + " " + strconv.Itoa(a.At)
	for _, v := range numbers {
		text += " " + strconv.FormatUint(v, 10)
	}
	return text
}

// Parse is the act whose text s is. What it reads must be shown as s again: so noughts ahead are no text of an act.
func Parse(s string) (api.Act, bool) {
	a, ok := read(s)
	if !ok || Show(a) != s {
		return api.Act{}, false
	}
	return a, true
}

// read is Parse, but takes numbers also where they are written otherwise than Show does.
func read(s string) (api.Act, bool) {
	pieces := strings.SplitN(s, " ", mostPieces)
	f, ok := formOfWord(pieces[0])
	if !ok || len(pieces) != 2+f.numbers {
		return api.Act{}, false
	}
	var numbers [3]uint64
	for i, piece := range pieces[1:] {
		v, err := strconv.ParseUint(piece, 10, 64)
		if err != nil {
			return api.Act{}, false
		}
		numbers[i] = v
	}
	if numbers[0] > math.MaxInt {
		return api.Act{}, false
	}
	return api.Act{Kind: f.kind, At: int(numbers[0]), A: numbers[1], B: numbers[2]}, true
}
