package pte

import (
	"math"
	"slices"
	"testing"

	"matryoshka/api"
)

const (
	least    = math.MinInt
	greatest = math.MaxInt
)

// Numbers at the bounds of each field, just outside, and far outside: among them some that are right ones modulo a power of two.
func someRights() []int {
	return []int{-1, 0, 1, 2, 3, 4, 5, 6, 7, 8, 9, 15, 16, -7, -8, 1 << 8, 1<<32 + 3, least, least + 1, greatest}
}
func someFrames() []int {
	return []int{-1, 0, 1, 2, 15, 16, 255, 256, 2047, 2048, 4094, 4095, 4096, 4097, 8191, 65535, -4095, -4096, 1 << 32, 1<<32 + 5, least, least + 5, greatest}
}
func both() []bool { return []bool{false, true} }

// entries is entries, right ones and others.
func entries() []Entry {
	var l []Entry
	for _, present := range both() {
		for _, large := range both() {
			for _, rights := range someRights() {
				for _, frame := range someFrames() {
					l = append(l, Entry{present, rights, large, frame})
				}
			}
		}
	}
	return l
}

// isRight is what the chapter says of an entry, part by part.
func isRight(e Entry) bool {
	if !e.Present {
		return e.Rights == 0 && !e.Large && e.Frame == 0
	}
	if e.Rights < 0 || e.Rights > 7 || e.Frame < 0 || e.Frame > 4095 {
		return false
	}
	return e.Rights > 0 || !e.Large
}

// eachRight is all right entries that there are.
func eachRight() []Entry {
	l := []Entry{{}}
	for frame := range 4096 {
		l = append(l, Entry{Present: true, Frame: frame})
		for rights := 1; rights <= 7; rights++ {
			l = append(l, Entry{true, rights, false, frame}, Entry{true, rights, true, frame})
		}
	}
	return l
}

func wrongEntries() []Entry { return slices.DeleteFunc(entries(), isRight) }

// P11.1: Right, Table.

func TestRight(t *testing.T) {
	for _, e := range eachRight() {
		if !Right(e) {
			t.Error(e)
		}
	}
	for _, e := range entries() {
		if Right(e) != isRight(e) {
			t.Error(e, Right(e))
		}
	}
}

func TestWhatIsNotRight(t *testing.T) {
	for _, e := range []Entry{
		{Present: true, Rights: -1}, {Present: true, Rights: 8}, {Present: true, Rights: least}, {Present: true, Rights: greatest},
		{Present: true, Frame: -1}, {Present: true, Frame: 4096}, {Present: true, Frame: least}, {Present: true, Frame: greatest},
		{Present: true, Rights: 1, Frame: -1}, {Present: true, Rights: 7, Frame: 4096}, {Present: true, Rights: 8, Frame: 4095},
		{Present: true, Large: true}, {Present: true, Large: true, Frame: 4095},
		{Present: true, Rights: 8, Large: true}, {Present: true, Rights: -1, Large: true}, {Present: true, Rights: 1, Large: true, Frame: 4096},
		{Rights: 1}, {Rights: 7}, {Rights: 8}, {Rights: -1}, {Large: true}, {Frame: 1}, {Frame: 4095}, {Frame: 4096}, {Frame: -1},
		{Rights: 1, Large: true}, {Rights: 1, Frame: 1}, {Large: true, Frame: 1}, {Rights: 1, Large: true, Frame: 1},
	} {
		if Right(e) || Table(e) {
			t.Error(e, Right(e), Table(e))
		}
	}
}

func TestTable(t *testing.T) {
	for _, e := range slices.Concat(eachRight(), entries()) {
		want := isRight(e) && e.Present && e.Rights == 0
		if Table(e) != want {
			t.Errorf("Table(%v) = %t", e, !want)
		}
	}
	for _, frame := range []int{0, 1, 4094, 4095} {
		if !Table(Entry{Present: true, Frame: frame}) {
			t.Error(frame)
		}
	}
	if Table(Entry{}) || Table(Entry{Present: true, Rights: 1}) {
		t.Error("a table that is none")
	}
}

// P11.2: Allows.

func TestAllows(t *testing.T) {
	for rights := 1; rights <= 7; rights++ {
		for want := range 8 {
			all := true
			for _, one := range []int{1, 2, 4} {
				if want/one%2 == 1 && rights/one%2 == 0 {
					all = false
				}
			}
			for _, large := range both() {
				for _, frame := range []int{0, 5, 4095} {
					if e := (Entry{true, rights, large, frame}); Allows(e, want) != all {
						t.Errorf("Allows(%v, %d) = %t", e, want, !all)
					}
				}
			}
		}
	}
}

func TestAllowsByName(t *testing.T) {
	e := Entry{Present: true, Rights: api.Read | api.Exec}
	for _, want := range []int{0, api.Read, api.Exec, api.Read | api.Exec} {
		if !Allows(e, want) {
			t.Error(want)
		}
	}
	for _, want := range []int{api.Write, api.Write | api.Read, api.Write | api.Exec, api.Read | api.Write | api.Exec} {
		if Allows(e, want) {
			t.Error(want)
		}
	}
}

func TestAllowsNoSuchRights(t *testing.T) {
	for _, e := range eachRight() {
		for _, want := range []int{-1, -2, -8, 8, 9, 16, 1 << 32, least, least + 1, greatest} {
			if Allows(e, want) {
				t.Errorf("Allows(%v, %d)", e, want)
			}
		}
	}
}

func TestAllowsNothing(t *testing.T) {
	wants := []int{-1, 0, 1, 2, 3, 4, 5, 6, 7, 8, least, greatest}
	l := wrongEntries()
	l = append(l, Entry{}, Entry{Present: true}, Entry{Present: true, Frame: 1}, Entry{Present: true, Frame: 4095})
	for _, e := range l {
		for _, want := range wants {
			if Allows(e, want) {
				t.Errorf("Allows(%v, %d)", e, want)
			}
		}
	}
}
