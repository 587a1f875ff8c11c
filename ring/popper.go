package ring

import (
	"matryoshka/api"
	"matryoshka/mem"
)

// Popper pops a value.
type Popper struct{ program }

// pops is the turns that are a popper's own.
type pops struct{}

func (t pops) count(q Ring) int { return q.At + poppedWord }

func (t pops) opens(position uint64) uint64 { return position + 1 }

func (t pops) move(at int) api.Act {
	return api.Act{Kind: api.ActLoad, At: at}
}

// left is the turn at which a pusher of the next round may claim the slot.
func (t pops) left(q Ring, position uint64) uint64 { return position + uint64(q.Size) }

// Pop is one who pops; nil, if there is no such ring.
func (q Ring) Pop() *Popper {
	if !q.canBe() {
		return nil
	}
	return &Popper{program{ring: q, own: pops{}}}
}

// Step does a popper's next step, and tells whether it's done then.
func (p *Popper) Step(m *mem.Mem) bool {
	if p == nil {
		return false
	}
	return p.step(m)
}

// Next is the act of a popper's next step; a zero one, if it's done.
func (p *Popper) Next() api.Act {
	if p == nil {
		return api.Act{}
	}
	return p.next()
}

// Result is the value, whether there is one, and whether the popper is done. A value whose slot it could not leave is none.
func (p *Popper) Result() (uint64, bool, bool) {
	if p == nil {
		return 0, false, false
	}
	if !p.whole {
		return 0, false, p.isDone()
	}
	return p.moved, true, true
}
