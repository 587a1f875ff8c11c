package ring

import (
	"matryoshka/act"
	"matryoshka/api"
	"matryoshka/mem"
)

// The turns of a program, in the order in which it goes through them if nobody else is at the ring.
const (
	loadsCount = iota
	loadsTurn
	claims
	moves
	leaves
	done
)

// turns is what pushers and poppers each do in a way of their own; all else of their turns is alike.
type turns interface {
	// count is the word by which positions are given out.
	count(q Ring) int
	// opens is the turn of a position's slot at which that position may be claimed.
	opens(position uint64) uint64
	// move is what is done to the value of a slot that is claimed.
	move(at int) api.Act
	// left is the turn with which a position's slot is left.
	left(q Ring, position uint64) uint64
}

// program is what pushers and poppers are: they go from turn to turn, one act a step.
type program struct {
	ring     Ring
	own      turns // nil, of a program that Push and Pop did not give
	turn     int
	position uint64
	moved    uint64 // what came of the move: the value, if it was a load
	whole    bool   // it went through all turns: neither the ring nor an error ended it ahead of that
}

func (p *program) isNone() bool { return p.own == nil }

func (p *program) isDone() bool { return p.turn == done }

// step does the next act, and tells whether the program is done then.
func (p *program) step(m *mem.Mem) bool {
	if p.isNone() {
		return false
	}
	if !p.isDone() {
		p.goOn(act.Do(m, p.next()))
	}
	return p.isDone()
}

// next is the act of the next step; a zero one, if there is none.
func (p *program) next() api.Act {
	if p.isNone() {
		return api.Act{}
	}
	slot := p.ring.slot(p.position)
	switch p.turn {
	case loadsCount:
		return api.Act{Kind: api.ActLoad, At: p.own.count(p.ring)}
	case loadsTurn:
		return api.Act{Kind: api.ActLoad, At: slot + turnWord}
	case claims:
		return api.Act{Kind: api.ActCas, At: p.own.count(p.ring), A: p.position, B: p.position + 1}
	case moves:
		return p.own.move(slot + valueWord)
	case leaves:
		return api.Act{Kind: api.ActStore, At: slot + turnWord, A: p.own.left(p.ring, p.position)}
	}
	return api.Act{}
}

// goOn chooses the next turn by what came of this one's act.
func (p *program) goOn(came act.Res) {
	if came.E != api.OK {
		p.turn = done
		return
	}
	switch p.turn {
	case loadsCount:
		p.position = came.V
		p.turn = loadsTurn
	case loadsTurn:
		p.turn = p.behindTurn(came.V)
	case claims:
		p.turn = loadsCount
		if came.Ok {
			p.turn = moves
		}
	case moves:
		p.moved = came.V
		p.turn = leaves
	case leaves:
		p.whole = true
		p.turn = done
	}
}

// behindTurn is the program's turn behind the load of a slot's turn. A slot that stays behind is one that those of the other kind have not left yet; one that is ahead tells that others of this kind were faster.
func (p *program) behindTurn(slot uint64) int {
	// Turns go round at 2^64: so the sign of the difference tells which of two is less, not the numbers themselves.
	ahead := int64(slot - p.own.opens(p.position))
	switch {
	case ahead == 0:
		return claims
	case ahead < 0:
		return done
	}
	return loadsCount
}
