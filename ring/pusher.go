package ring

import (
	"matryoshka/api"
	"matryoshka/mem"
)

// Pusher pushes a value.
type Pusher struct{ program }

// pushes is the turns that are a pusher's own.
type pushes struct{ value uint64 }

func (t pushes) count(q Ring) int { return q.At + pushedWord }

func (t pushes) opens(position uint64) uint64 { return position }

func (t pushes) move(at int) api.Act {
	return api.Act{Kind: api.ActStore, At: at, A: t.value}
}

// left is the turn at which a popper may claim the slot.
func (t pushes) left(q Ring, position uint64) uint64 { return position + 1 }

// Push is one who pushes a value; nil, if there is no such ring.
func (q Ring) Push(v uint64) *Pusher {
	if !q.canBe() {
		return nil
	}
	return &Pusher{program{ring: q, own: pushes{value: v}}}
}

// Step does a pusher's next step, and tells whether it's done then.
func (p *Pusher) Step(m *mem.Mem) bool {
	if p == nil {
		return false
	}
	return p.step(m)
}

// Next is the act of a pusher's next step; a zero one, if it's done.
func (p *Pusher) Next() api.Act {
	if p == nil {
		return api.Act{}
	}
	return p.next()
}

// Result is whether the value was pushed, and whether the pusher is done.
func (p *Pusher) Result() (bool, bool) {
	if p == nil {
		return false, false
	}
	return p.whole, p.isDone()
}
