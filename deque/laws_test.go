package deque

import (
	"slices"
	"strings"
	"testing"

	"matryoshka/api"
	"matryoshka/mem"
)

// P7.5: laws.

// plan is a deque, where both of its ends are at first, what its owner does (+ is a push, - a pop), and how many tasks each thief has.
type plan struct {
	deque   Deque
	first   uint64
	owner   string
	thieves []int
}

// valueOf is what the owner pushes with one of its tasks: all values differ.
func valueOf(which int) uint64 { return uint64(1000 + which) }

// task is the owner's task in its turn.
func (p plan) task(which int) *Task {
	if p.owner[which] == '+' {
		return p.deque.Push(valueOf(which))
	}
	return p.deque.Pop()
}

// What became of the value of an owner's task.
const (
	isNone = iota
	isIn
	isTaken
)

const (
	mostTasks   = 10
	mostThieves = 3
)

// scene is a memory of one deque of up to three slots, at its word 0, with its owner and thieves; as values, so that scenes can be compared and kept.
type scene struct {
	words   [5]uint64
	owner   Task
	which   int // which one of its tasks the owner is at
	thieves [mostThieves]Task
	steals  [mostThieves]int // how many tasks each thief has ended
	values  [mostTasks]int   // by the owner's tasks
}

// events is how often something happened that the laws hang on.
type events struct{ full, popsNone, popsFirst, popsLate, stealsNone, stealsLate int }

// tell counts an act by what came of its task, if that is one of the events; robbed, if it is a cas that said no.
func (e *events) tell(d Deque, a api.Act, robbed bool, r result) {
	switch {
	case a.Kind == api.ActCas && robbed && r.done:
		e.stealsLate++
	case a.Kind == api.ActCas && robbed:
		e.popsLate++
	case a.Kind == api.ActCas && !r.done:
		e.popsFirst++
	case a.At == d.At && r == nothing:
		e.full++
	case a.Kind == api.ActLoad && r == nothing:
		e.stealsNone++
	}
}

// step does a step of a task, and counts what happened by it.
func (e *events) step(d Deque, one *Task, m *mem.Mem) result {
	a := one.Next()
	word, _ := m.Load(a.At)
	one.Step(m)
	r := resultOf(one)
	e.tell(d, a, a.Kind == api.ActCas && word != a.A, r)
	return r
}

func (p plan) begin(t *testing.T) scene {
	t.Helper()
	if len(p.owner) > mostTasks || len(p.thieves) > mostThieves || p.deque.Size > 3 {
		t.Fatalf("%v is too much for a scene", p)
	}
	s := scene{words: [5]uint64{p.first, p.first}}
	s.owner = *p.task(0)
	for who := range p.thieves {
		s.thieves[who] = *p.deque.Steal()
	}
	return s
}

// isOn tells whether one has still something to do; the owner is behind the thieves.
func (p plan) isOn(s *scene, who int) bool {
	if who == len(p.thieves) {
		return s.which < len(p.owner)
	}
	return s.steals[who] < p.thieves[who]
}

// behind is the scene behind a step of one of them.
func (p plan) behind(t *testing.T, s scene, who int, e *events) scene {
	t.Helper()
	m := with(t, s.words[:2+p.deque.Size]...)
	if who == len(p.thieves) {
		if r := e.step(p.deque, &s.owner, m); r.done {
			p.account(t, s.values[:], s.which, r)
			e.popsNone += p.isPopOfNone(s.which, r)
			s.which++
			s.owner = Task{}
			if s.which < len(p.owner) {
				s.owner = *p.task(s.which)
			}
		}
	} else if r := e.step(p.deque, &s.thieves[who], m); r.done {
		p.accountTaken(t, s.values[:], r)
		s.steals[who]++
		s.thieves[who] = *p.deque.Steal()
	}
	copy(s.words[:], m.Words(0, m.Len()))
	return s
}

func (p plan) isPopOfNone(which int, r result) int {
	if p.owner[which] == '-' && !r.is {
		return 1
	}
	return 0
}

// account holds the laws against what came of one of the owner's tasks.
func (p plan) account(t *testing.T, values []int, which int, r result) {
	t.Helper()
	if p.owner[which] == '-' {
		p.accountTaken(t, values, r)
		return
	}
	if r.is && r.value != valueOf(which) {
		t.Fatalf("%v: a push of %d tells %d", p, valueOf(which), r.value)
	}
	if r.is {
		values[which] = isIn
	}
}

// accountTaken holds the laws against what came of a pop or a steal.
func (p plan) accountTaken(t *testing.T, values []int, r result) {
	t.Helper()
	if !r.is {
		return
	}
	which := int(r.value) - int(valueOf(0))
	if which < 0 || which >= len(p.owner) || values[which] == isNone {
		t.Fatalf("%v: %d is taken, and was not pushed", p, r.value)
	}
	if values[which] == isTaken {
		t.Fatalf("%v: %d is taken twice", p, r.value)
	}
	values[which] = isTaken
}

// wantEnd: when all tasks are done, what is still in it is taken by those who come then, the thief's way and the owner's: so nothing was lost.
func (p plan) wantEnd(t *testing.T, m *mem.Mem, values []int) {
	t.Helper()
	for _, takes := range []func(Deque) *Task{Deque.Steal, Deque.Pop} {
		m, left := m.Copy(), slices.Clone(values)
		for range len(values) + 1 {
			p.accountTaken(t, left, finish(t, takes(p.deque), m))
		}
		if which := slices.Index(left, isIn); which >= 0 {
			t.Fatalf("%v: %d is lost", p, valueOf(which))
		}
		if l := m.Words(p.deque.At, 2); l[0] != l[1] {
			t.Fatalf("%v: the ends at last %v", p, l)
		}
	}
}

// goThrough goes through every scene that some order of steps leads to, and tells how many ends there are, by which values were taken.
func (p plan) goThrough(t *testing.T, e *events) int {
	t.Helper()
	first := p.begin(t)
	seen := map[scene]bool{first: true}
	work := []scene{first}
	ends := map[[mostTasks]int]bool{}
	for len(work) > 0 {
		s := work[len(work)-1]
		work = work[:len(work)-1]
		on := false
		for who := range len(p.thieves) + 1 {
			if !p.isOn(&s, who) {
				continue
			}
			on = true
			if next := p.behind(t, s, who, e); !seen[next] {
				seen[next] = true
				work = append(work, next)
			}
		}
		if !on {
			ends[s.values] = true
			p.wantEnd(t, with(t, s.words[:2+p.deque.Size]...), s.values[:])
		}
	}
	return len(ends)
}

func TestLawsInAllOrders(t *testing.T) {
	one, two, three := Deque{Size: 1}, Deque{Size: 2}, Deque{Size: 3}
	var e events
	for _, p := range []plan{
		{one, 0, "+-", []int{1}},
		{one, 0, "+-+-+-", []int{3}},
		{one, 0, "++-++-+", []int{2, 2}},
		{one, 0, "+-+-+-", []int{2, 2}},
		{one, 0, "+-+", []int{1, 1, 1}},
		{one, 0, "-+--+-", []int{2, 1}},
		{one, most - 1, "+-+-+-", []int{2, 2}},
		{two, 0, "++--", []int{1}},
		{two, 0, "++--", []int{2, 2}},
		{two, 0, "+++-+-+", []int{2, 2}},
		{two, 0, "++--+-", []int{1, 1, 1}},
		{two, 0, "++++++--", []int{3, 2}},
		{two, 0, "++--++--+-", []int{4}},
		{two, most - 1, "++-++--", []int{2, 2}},
		{three, 0, "+++---", []int{2, 2}},
		{three, 5, "+++-++--", []int{2, 2}},
		{three, 2, "++++-+-+--", []int{4}},
	} {
		p.goThrough(t, &e)
	}
	if e.full == 0 || e.popsNone == 0 || e.popsFirst == 0 || e.popsLate == 0 || e.stealsNone == 0 || e.stealsLate == 0 {
		t.Errorf("something did not happen: %+v", e)
	}
}

// TestEndsOfAllOrders: how many ends there are, where it can be told by hand.
func TestEndsOfAllOrders(t *testing.T) {
	for _, c := range []struct {
		plan
		ends int
	}{
		// One value: the owner takes it, or the thief.
		{plan{Deque{Size: 1}, 0, "+-", []int{1}}, 1},
		// Nobody pops: the thief comes too early, or not.
		{plan{Deque{Size: 1}, 0, "+", []int{1}}, 2},
		// The thief comes too early, or it takes the first one: ahead of the second push, or while that finds the deque full.
		{plan{Deque{Size: 1}, 0, "++", []int{1}}, 3},
		// The thief takes the first one or nothing.
		{plan{Deque{Size: 2}, 0, "++", []int{1}}, 2},
		// The first one is taken at any rate; the second one, if the thief comes for it.
		{plan{Deque{Size: 2}, 0, "+-+", []int{1}}, 2},
	} {
		var e events
		if n := c.goThrough(t, &e); n != c.ends {
			t.Errorf("%v: %d ends, want %d", c.plan, n, c.ends)
		}
	}
}

func numbers(seed uint64) func(n int) int {
	return func(n int) int {
		seed = seed*6364136223846793005 + 1442695040888963407
		return int(seed >> 33 % uint64(n))
	}
}

// byLot is what an owner does, with more pushes for a while, and then with more pops.
func byLot(next func(int) int, tasks int) string {
	var b strings.Builder
	for b.Len() < tasks {
		pushes := next(8)
		for range 1 + next(20) {
			if next(8) < pushes {
				b.WriteByte('+')
			} else {
				b.WriteByte('-')
			}
		}
	}
	return b.String()
}

// TestLawsInManyOrders: more thieves, and greater deques, in orders by lot; also such as leave one behind for long.
func TestLawsInManyOrders(t *testing.T) {
	for _, size := range []int{1, 2, 3, 4, 7, 64} {
		var e events
		for seed := range 60 {
			next := numbers(uint64(100*size + seed))
			p := plan{deque: Deque{At: seed % 3, Size: size}, owner: byLot(next, 300), thieves: make([]int, 1+seed%5)}
			// Where Size is a power of two the slots follow one another also beyond the position 2^64 - 1.
			if seed%2 == 1 && size&(size-1) == 0 {
				p.first = most - 20
			}
			p.crowd(t, next, &e)
		}
		if e.popsNone == 0 || e.popsFirst == 0 || e.popsLate == 0 || e.stealsNone == 0 || e.stealsLate == 0 {
			t.Errorf("size %d: something did not happen: %+v", size, e)
		}
		if e.full == 0 && size < 64 {
			t.Errorf("size %d: never full", size)
		}
	}
}

// crowd lets the owner and the thieves go on, till the owner has done all its tasks, and the thieves those that they are at.
func (p plan) crowd(t *testing.T, next func(int) int, e *events) {
	t.Helper()
	m := laid(t, p.deque, p.first, p.first)
	values := make([]int, len(p.owner))
	thieves := make([]*Task, len(p.thieves))
	for who := range thieves {
		thieves[who] = p.deque.Steal()
	}
	lazy := 1 + next(40)
	owner, which := p.task(0), 0
	for turns := 0; which < len(p.owner); turns++ {
		if turns == 1000000 {
			t.Fatalf("%v: the owner has done %d tasks, and no more", p, which)
		}
		who := next(len(thieves) + lazy)
		for range 1 + next(8) {
			if who < len(thieves) {
				p.steal(t, m, &thieves[who], values, e)
				continue
			}
			if which == len(p.owner) {
				break
			}
			if r := e.step(p.deque, owner, m); r.done {
				p.account(t, values, which, r)
				e.popsNone += p.isPopOfNone(which, r)
				which++
				if which < len(p.owner) {
					owner = p.task(which)
				}
			}
		}
	}
	for _, one := range thieves {
		p.accountTaken(t, values, finish(t, one, m))
	}
	p.wantEnd(t, m, values)
	p.wantBeside(t, m)
}

// steal does a thief's step; one that is done begins a new task.
func (p plan) steal(t *testing.T, m *mem.Mem, one **Task, values []int, e *events) {
	t.Helper()
	if r := e.step(p.deque, *one, m); r.done {
		p.accountTaken(t, values, r)
		*one = p.deque.Steal()
	}
}

// wantBeside: no word ahead of the deque or behind it has changed.
func (p plan) wantBeside(t *testing.T, m *mem.Mem) {
	t.Helper()
	end := p.deque.At + 2 + p.deque.Size
	if !slices.Equal(m.Words(0, p.deque.At), rising(900, p.deque.At)) || !slices.Equal(m.Words(end, behindWords), rising(900+uint64(end), behindWords)) {
		t.Fatalf("%v: a word beside the deque changed", p)
	}
}

// TestThoseWhoStop: whoever goes no further, wherever that is, keeps no value but the one that it's at from the others; when it goes on, nothing is lost.
func TestThoseWhoStop(t *testing.T) {
	for _, size := range []int{1, 2, 3} {
		for steps := range 4 {
			p := plan{deque: Deque{At: 1, Size: size}, owner: strings.Repeat("+", size) + strings.Repeat("-+", 9)}
			m := laid(t, p.deque, 0, 0)
			values := make([]int, len(p.owner))
			var stops *Task
			for which := range p.owner {
				if which == size {
					stops = p.deque.Steal()
					for range steps {
						stops.Step(m)
					}
				}
				r := finish(t, p.task(which), m)
				p.account(t, values, which, r)
				if !r.is {
					t.Fatalf("%v: task %d is done without anything", p, which)
				}
			}
			p.accountTaken(t, values, finish(t, stops, m))
			p.wantEnd(t, m, values)
		}
	}
}
