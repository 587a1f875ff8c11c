package pool

import (
	"matryoshka/api"
	"matryoshka/desc"
)

// lay is the one way by which a descriptor changes, so that an error leaves it as it was.
func (p *Pool) lay(f int, change func(desc.Desc) (desc.Desc, api.Errno)) api.Errno {
	if e := p.fault(f); e != api.OK {
		return e
	}
	d, e := change(p.frames[f])
	if e != api.OK {
		return e
	}
	p.frames[f] = d
	return api.OK
}

// Take is the free frame with the least number, which is then of the kind, and the owner's.
func (p *Pool) Take(kind, owner int) (int, api.Errno) {
	if p.isNone() {
		return 0, api.ErrNil
	}
	f, ok := p.firstFree()
	if !ok {
		return 0, api.ErrFrame
	}
	if e := p.Turn(f, kind, owner); e != api.OK {
		return 0, e
	}
	return f, api.OK
}

// Give makes a frame free.
func (p *Pool) Give(f int) api.Errno { return p.Turn(f, desc.Free, 0) }

// Turn makes a frame another kind, and another owner's.
func (p *Pool) Turn(f, kind, owner int) api.Errno {
	return p.lay(f, func(d desc.Desc) (desc.Desc, api.Errno) { return desc.Next(d, kind, owner) })
}

// Ref counts by more who refer to a frame; fewer, if by is below 0.
func (p *Pool) Ref(f, by int) api.Errno {
	return p.lay(f, func(d desc.Desc) (desc.Desc, api.Errno) { return desc.Ref(d, by) })
}
