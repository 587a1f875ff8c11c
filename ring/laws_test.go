package ring

import (
	"slices"
	"testing"

	"matryoshka/mem"
)

// P6.5: laws.

// valueOf is what one pushes in its turn: all values differ, and tell who pushed them and as which one.
func valueOf(who, which int) uint64 { return uint64(1000*(who+1) + which) }

// plan is a ring, how many values each one pushes, and how many each one pops.
type plan struct {
	ring   Ring
	pushes []int
	pops   []int
}

func sum(l []int) int {
	n := 0
	for _, v := range l {
		n += v
	}
	return n
}

const (
	mostEach = 3 // who push, and who pop
	mostPops = 6 // values that one pops
)

// scene is a memory of one ring of up to three slots, at its word 0, with those who push and pop; as values, so that scenes can be compared and kept.
type scene struct {
	words   [8]uint64
	pushers [mostEach]Pusher
	pushed  [mostEach]int // how many values each one has pushed
	poppers [mostEach]Popper
	popped  [mostEach]int // how many each one has popped
	got     [mostEach][mostPops]uint64
}

func (p plan) begin(t *testing.T) scene {
	t.Helper()
	m := with(t, make([]uint64, 2+2*p.ring.Size)...)
	p.ring.Init(m)
	var s scene
	copy(s.words[:], m.Words(0, m.Len()))
	for who := range p.pushes {
		s.pushers[who] = *p.ring.Push(valueOf(who, 0))
	}
	for who := range p.pops {
		s.poppers[who] = *p.ring.Pop()
	}
	return s
}

func (p plan) actors() int { return len(p.pushes) + len(p.pops) }

// isOn tells whether one has still something to push, or to pop; those who pop are behind those who push.
func (p plan) isOn(s *scene, who int) bool {
	if who < len(p.pushes) {
		return s.pushed[who] < p.pushes[who]
	}
	who -= len(p.pushes)
	return s.popped[who] < p.pops[who]
}

// behind is the scene behind a step of one of them. One that finds the ring full, or nothing in it, tries again.
func (p plan) behind(t *testing.T, s scene, who int) scene {
	t.Helper()
	m := with(t, s.words[:2+2*p.ring.Size]...)
	if who < len(p.pushes) {
		if s.pushers[who].Step(m) {
			if is, _ := s.pushers[who].Result(); is {
				s.pushed[who]++
			}
			s.pushers[who] = *p.ring.Push(valueOf(who, s.pushed[who]))
		}
	} else {
		who -= len(p.pushes)
		if s.poppers[who].Step(m) {
			if v, is, _ := s.poppers[who].Result(); is {
				s.got[who][s.popped[who]] = v
				s.popped[who]++
			}
			s.poppers[who] = *p.ring.Pop()
		}
	}
	copy(s.words[:], m.Words(0, m.Len()))
	return s
}

// wantLaws holds the laws against what was pushed and popped up to now, and against the ring's first two words.
func (p plan) wantLaws(t *testing.T, words, pushed, popped []uint64, got [][]uint64) {
	t.Helper()
	pushes, pops := total(pushed), total(popped)
	if words[0] < pushes || words[1] < pops || words[1] > pushes || words[0] > pops+uint64(p.ring.Size) {
		t.Fatalf("%v: the words %v, with %d pushed and %d popped", p, words, pushes, pops)
	}
	seen := map[uint64]bool{}
	for _, l := range got {
		for _, v := range l {
			who := int(v/1000) - 1
			if who < 0 || who >= len(pushed) || v%1000 >= pushed[who] {
				t.Fatalf("%v: %d is popped, and was not pushed", p, v)
			}
			if seen[v] {
				t.Fatalf("%v: %d is popped twice", p, v)
			}
			seen[v] = true
		}
	}
	if len(got) == 1 {
		wantOrder(t, got[0])
	}
}

func total(l []uint64) uint64 {
	n := uint64(0)
	for _, v := range l {
		n += v
	}
	return n
}

// wantOrder: of each one who pushes, the values are there in the order of pushing, and none is left out.
func wantOrder(t *testing.T, got []uint64) {
	t.Helper()
	next := map[uint64]uint64{}
	for _, v := range got {
		if v%1000 != next[v/1000] {
			t.Fatalf("popped in the order %v", got)
		}
		next[v/1000]++
	}
}

func widen(l []int) []uint64 {
	w := make([]uint64, len(l))
	for i, v := range l {
		w[i] = uint64(v)
	}
	return w
}

func (p plan) wantLawsOf(t *testing.T, s *scene) {
	t.Helper()
	var got [][]uint64
	for who := range p.pops {
		got = append(got, s.got[who][:s.popped[who]])
	}
	p.wantLaws(t, s.words[:2], widen(s.pushed[:len(p.pushes)]), widen(s.popped[:len(p.pops)]), got)
}

// TestLawsInAllOrders goes through every scene that some order of steps leads to; orders is how many ways there are in which all is popped at last.
func TestLawsInAllOrders(t *testing.T) {
	two, three := Ring{Size: 2}, Ring{Size: 3}
	for _, c := range []struct {
		plan
		orders int
	}{
		{plan{two, []int{1}, []int{1}}, 1},
		{plan{two, []int{6}, []int{6}}, 1},
		{plan{three, []int{6}, []int{6}}, 1},
		{plan{two, []int{3}, []int{2, 1}}, 3},
		{plan{two, []int{1, 1}, []int{2}}, 2},
		{plan{two, []int{2, 2}, []int{4}}, 6},
		{plan{three, []int{2, 2}, []int{4}}, 6},
		{plan{two, []int{1, 1, 1}, []int{3}}, 6},
		{plan{two, []int{3}, []int{1, 1, 1}}, 6},
		{plan{two, []int{1, 1, 1}, []int{1, 1, 1}}, 6},
		{plan{two, []int{2, 1}, []int{2, 1}}, 5},
		{plan{two, []int{2, 2}, []int{2, 2}}, 16},
		{plan{two, []int{3, 3}, []int{6}}, 20},
		{plan{three, []int{2, 2, 2}, []int{6}}, 90},
	} {
		c.goThrough(t, c.orders)
	}
}

func (p plan) goThrough(t *testing.T, orders int) {
	t.Helper()
	first := p.begin(t)
	seen := map[scene]bool{first: true}
	work := []scene{first}
	ends := map[[mostEach][mostPops]uint64]bool{}
	for len(work) > 0 {
		s := work[len(work)-1]
		work = work[:len(work)-1]
		p.wantLawsOf(t, &s)
		on := false
		for who := range p.actors() {
			if !p.isOn(&s, who) {
				continue
			}
			on = true
			if next := p.behind(t, s, who); !seen[next] {
				seen[next] = true
				work = append(work, next)
			}
		}
		if !on {
			ends[s.got] = true
			p.wantEnd(t, &s)
		}
	}
	if len(ends) != orders {
		t.Errorf("%v: %d orders, want %d", p, len(ends), orders)
	}
}

// wantEnd: when all is pushed and popped there is nothing in the ring.
func (p plan) wantEnd(t *testing.T, s *scene) {
	t.Helper()
	n := uint64(sum(p.pushes))
	m := with(t, s.words[:2+2*p.ring.Size]...)
	if s.words[0] != n || s.words[1] != n {
		t.Fatalf("%v: at last %v", p, s.words)
	}
	wantNothing(t, p.ring, m)
}

func numbers(seed uint64) func(n int) int {
	return func(n int) int {
		seed = seed*6364136223846793005 + 1442695040888963407
		return int(seed >> 33 % uint64(n))
	}
}

// TestLawsInManyOrders: more who push and pop, and greater rings, in orders by lot; also such as leave one behind for long.
func TestLawsInManyOrders(t *testing.T) {
	for _, size := range []int{2, 3, 4, 7, 64} {
		full, nothing := 0, 0
		for seed := range 60 {
			q := Ring{At: seed % 3, Size: size}
			many := []int{size, 20, 2*size + 5}
			all := sum(many)
			for _, pops := range [][]int{{all}, {all / 2, all - all/2}, {all / 4, all / 4, all / 4, all - 3*(all/4)}} {
				c := crowd(t, plan{q, many, pops}, numbers(uint64(seed)))
				full, nothing = full+c.full, nothing+c.nothing
			}
		}
		if full == 0 || nothing == 0 {
			t.Errorf("size %d: %d times full, %d times nothing", size, full, nothing)
		}
	}
}

// crew is those of a plan, with one memory.
type crew struct {
	plan
	m       *mem.Mem
	pushers []*Pusher
	poppers []*Popper
	pushed  []uint64
	popped  []uint64
	got     [][]uint64
	full    int // how often one found the ring full
	nothing int // how often one found nothing in it
}

func crewOf(t *testing.T, p plan) *crew {
	t.Helper()
	c := &crew{plan: p, m: ready(t, p.ring)}
	for who := range p.pushes {
		c.pushers = append(c.pushers, p.ring.Push(valueOf(who, 0)))
	}
	for range p.pops {
		c.poppers = append(c.poppers, p.ring.Pop())
	}
	c.pushed = make([]uint64, len(p.pushes))
	c.popped = make([]uint64, len(p.pops))
	c.got = make([][]uint64, len(p.pops))
	return c
}

func (c *crew) push(who int) {
	if c.pushed[who] == uint64(c.pushes[who]) || !c.pushers[who].Step(c.m) {
		return
	}
	if is, _ := c.pushers[who].Result(); is {
		c.pushed[who]++
	} else {
		c.full++
	}
	c.pushers[who] = c.ring.Push(valueOf(who, int(c.pushed[who])))
}

func (c *crew) pop(who int) {
	if c.popped[who] == uint64(c.pops[who]) || !c.poppers[who].Step(c.m) {
		return
	}
	if v, is, _ := c.poppers[who].Result(); is {
		c.popped[who]++
		c.got[who] = append(c.got[who], v)
	} else {
		c.nothing++
	}
	c.poppers[who] = c.ring.Pop()
}

// crowd lets those of a plan go on, till all is pushed and popped.
func crowd(t *testing.T, p plan, next func(int) int) *crew {
	t.Helper()
	c := crewOf(t, p)
	all := uint64(sum(p.pushes))
	ahead := c.m.Words(0, p.ring.At)
	for turns := 0; total(c.popped) < all; turns++ {
		if turns == 1000000 {
			t.Fatalf("%v: %d are popped, and no more", p, total(c.popped))
		}
		who, many := next(p.actors()), 1+next(16)
		for range many {
			if who < len(p.pushes) {
				c.push(who)
			} else {
				c.pop(who - len(p.pushes))
			}
		}
		if turns%8 == 0 {
			p.wantLaws(t, c.m.Words(p.ring.At, 2), c.pushed, c.popped, c.got)
		}
	}
	p.wantLaws(t, c.m.Words(p.ring.At, 2), c.pushed, c.popped, c.got)
	wantNothing(t, p.ring, c.m)
	if l := c.m.Words(p.ring.At, 2); l[0] != all || l[1] != all {
		t.Fatalf("%v: at last %v", p, l)
	}
	end := p.ring.At + 2 + 2*p.ring.Size
	if !slices.Equal(c.m.Words(0, p.ring.At), ahead) || !slices.Equal(c.m.Words(end, 3), rising(900+uint64(end), 3)) {
		t.Fatalf("%v: a word beside the ring changed", p)
	}
	return c
}

// TestRingsSideBySide: what is pushed into one is not popped from another.
func TestRingsSideBySide(t *testing.T) {
	one, other := Ring{At: 0, Size: 2}, Ring{At: 6, Size: 3}
	m := with(t, make([]uint64, 14)...)
	one.Init(m)
	other.Init(m)
	for round := range uint64(7) {
		wantPush(t, one, m, 100+round, true)
		wantNothing(t, other, m)
		wantPush(t, other, m, 200+round, true)
		wantPop(t, one, m, 100+round)
		wantNothing(t, one, m)
		wantPop(t, other, m, 200+round)
	}
}

// TestThoseWhoStop: whoever goes no further, wherever that is, the others break no law; when it goes on, all is popped at last.
func TestThoseWhoStop(t *testing.T) {
	for steps := range 5 {
		for _, pushes := range []bool{true, false} {
			p := plan{Ring{At: 1, Size: 2}, []int{5, 5}, []int{5, 5}}
			c := crewOf(t, p)
			if !pushes {
				wantFirst(t, c)
			}
			for range steps {
				if pushes {
					c.push(0)
				} else {
					c.pop(0)
				}
			}
			for range 200 {
				c.push(1)
				c.pop(1)
				if pushes {
					c.pop(0)
				} else {
					c.push(0)
				}
				p.wantLaws(t, c.m.Words(1, 2), c.pushed, c.popped, c.got)
			}
			for range 200 {
				c.push(0)
				c.pop(0)
				c.push(1)
				c.pop(1)
				p.wantLaws(t, c.m.Words(1, 2), c.pushed, c.popped, c.got)
			}
			if total(c.popped) != 10 {
				t.Errorf("%d steps, of one who pushes %t: %d are popped", steps, pushes, total(c.popped))
			}
		}
	}
}

// wantFirst pushes one value, so that one who pops goes through all its turns.
func wantFirst(t *testing.T, c *crew) {
	t.Helper()
	for c.pushed[1] == 0 {
		c.push(1)
	}
}
