package epoch

import "matryoshka/api"

// pin is whether a CPU is pinned, and at which epoch.
type pin struct {
	is bool
	at int
}

// fault is why a CPU can't be asked for.
func (e *Epochs) fault(cpu int) api.Errno {
	if e.isNone() {
		return api.ErrNil
	}
	if cpu < 0 || cpu >= len(e.pins) {
		return api.ErrRange
	}
	return api.OK
}

// lay is the one way by which a CPU's pin changes: to one that is pinned where it was not, or the other way round.
func (e *Epochs) lay(cpu int, to pin) api.Errno {
	if fault := e.fault(cpu); fault != api.OK {
		return fault
	}
	if e.pins[cpu].is == to.is {
		return api.ErrState
	}
	e.pins[cpu] = to
	return api.OK
}

// Pin pins a CPU at the epoch.
func (e *Epochs) Pin(cpu int) api.Errno { return e.lay(cpu, pin{is: true, at: e.Now()}) }

// Unpin ends that.
func (e *Epochs) Unpin(cpu int) api.Errno { return e.lay(cpu, pin{}) }

// Pinned is at which epoch a CPU is pinned, and whether it is.
func (e *Epochs) Pinned(cpu int) (int, bool) {
	if e.fault(cpu) != api.OK {
		return 0, false
	}
	return e.pins[cpu].at, e.pins[cpu].is
}

// Advance goes on to the next epoch, if nobody stays behind: so whoever is pinned is so at the epoch, or at the one before it.
func (e *Epochs) Advance() bool {
	if e.isNone() {
		return false
	}
	for _, p := range e.pins {
		if p.is && p.at != e.now {
			return false
		}
	}
	e.now++
	return true
}
