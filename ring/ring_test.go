package ring

import (
	"math"
	"slices"
	"testing"

	"matryoshka/api"
	"matryoshka/mem"
)

const most = math.MaxUint64

// with is a memory of these words.
func with(t *testing.T, l ...uint64) *mem.Mem {
	t.Helper()
	m, e := mem.New(len(l))
	if e != api.OK {
		t.Fatal(e)
	}
	for at, v := range l {
		if e := m.Store(at, v); e != api.OK {
			t.Fatal(e)
		}
	}
	return m
}

// rising is n words from first on, so that each one differs from the others.
func rising(first uint64, n int) []uint64 {
	l := make([]uint64, n)
	for i := range l {
		l[i] = first + uint64(i)
	}
	return l
}

func wantWords(t *testing.T, m *mem.Mem, want ...uint64) {
	t.Helper()
	if l := m.Words(0, m.Len()); !slices.Equal(l, want) {
		t.Fatalf("words %v, want %v", l, want)
	}
}

// ready is a memory of some words ahead, the ring with nothing in it, and some words behind.
func ready(t *testing.T, q Ring) *mem.Mem {
	t.Helper()
	m := with(t, rising(900, q.At+2+2*q.Size+3)...)
	if e := q.Init(m); e != api.OK {
		t.Fatal(e)
	}
	return m
}

func load(at int) api.Act            { return api.Act{Kind: api.ActLoad, At: at} }
func store(at int, v uint64) api.Act { return api.Act{Kind: api.ActStore, At: at, A: v} }
func cas(at int, position uint64) api.Act {
	return api.Act{Kind: api.ActCas, At: at, A: position, B: position + 1}
}

// stepper is a pusher or a popper, as far as both are stepped.
type stepper interface {
	Step(m *mem.Mem) bool
	Next() api.Act
}

// result is what a pusher or a popper answers; a pusher has no value.
type result struct {
	value    uint64
	is, done bool
}

func resultOf(s stepper) result {
	var r result
	switch p := s.(type) {
	case *Pusher:
		r.is, r.done = p.Result()
	case *Popper:
		r.value, r.is, r.done = p.Result()
	}
	return r
}

func wantResult(t *testing.T, s stepper, want result) {
	t.Helper()
	for range 2 {
		if r := resultOf(s); r != want {
			t.Fatalf("Result = %v, want %v", r, want)
		}
	}
}

func wantNext(t *testing.T, s stepper, want api.Act) {
	t.Helper()
	for range 2 {
		if a := s.Next(); a != want {
			t.Fatalf("Next = %v, want %v", a, want)
		}
	}
}

// step does a step whose act is to be want, and behind which the answer is to be r; it does that one act and no other.
func step(t *testing.T, s stepper, m *mem.Mem, want api.Act, r result) {
	t.Helper()
	wantNext(t, s, want)
	was, laid := m.Count()
	if done := s.Step(m); done != r.done {
		t.Fatalf("%v: Step = %t, want %t", want, done, r.done)
	}
	if now, _ := m.Count(); now != was+1 {
		t.Fatalf("%v: %d acts in one step", want, now-was)
	}
	if _, now := m.Count(); want.Kind == api.ActLoad && now != laid {
		t.Fatalf("%v: a word was laid", want)
	}
	wantResult(t, s, r)
}

// goOn does steps with these acts, behind none of which it's done.
func goOn(t *testing.T, s stepper, m *mem.Mem, acts ...api.Act) {
	t.Helper()
	for _, a := range acts {
		step(t, s, m, a, result{})
	}
}

// wantStill: what is done stays so, and does nothing, with any memory.
func wantStill(t *testing.T, s stepper, m *mem.Mem) {
	t.Helper()
	words := m.Words(0, m.Len())
	acts, laid := m.Count()
	was := resultOf(s)
	for range 3 {
		wantNext(t, s, api.Act{})
		for _, m := range []*mem.Mem{m, nil, {}} {
			if !s.Step(m) {
				t.Fatal("Step = no of what is done")
			}
		}
		wantResult(t, s, was)
	}
	wantWords(t, m, words...)
	if a, l := m.Count(); a != acts || l != laid {
		t.Fatalf("%d acts by what is done", a-acts)
	}
}

// finish does steps till it's done, and tells what came of it.
func finish(t *testing.T, s stepper, m *mem.Mem) result {
	t.Helper()
	for range 50 {
		if s.Step(m) {
			return resultOf(s)
		}
	}
	t.Fatal("no end")
	return result{}
}

func wantPush(t *testing.T, q Ring, m *mem.Mem, v uint64, want bool) {
	t.Helper()
	if r := finish(t, q.Push(v), m); r != (result{is: want, done: true}) {
		t.Fatalf("push %d: %v", v, r)
	}
}

func wantPop(t *testing.T, q Ring, m *mem.Mem, want uint64) {
	t.Helper()
	if r := finish(t, q.Pop(), m); r != (result{want, true, true}) {
		t.Fatalf("pop: %v, want %d", r, want)
	}
}

func wantNothing(t *testing.T, q Ring, m *mem.Mem) {
	t.Helper()
	if r := finish(t, q.Pop(), m); r != (result{done: true}) {
		t.Fatalf("pop: %v", r)
	}
}

// The line ahead of the promises: which rings there are, and what nil and zero objects answer.

func TestWhichRingsAre(t *testing.T) {
	places := map[int]bool{
		0: true, 1: true, 64999: true, 65000: true,
		-1: false, -2: false, -65000: false, 65001: false, 65406: false, 65535: false, 65536: false,
		1 << 32: false, 1<<32 + 1: false, math.MaxInt: false, math.MaxInt - 130: false, math.MinInt: false,
	}
	sizes := map[int]bool{
		2: true, 3: true, 33: true, 63: true, 64: true,
		-64: false, -2: false, -1: false, 0: false, 1: false, 65: false, 66: false, 128: false,
		1<<32 + 2: false, math.MaxInt: false, math.MinInt: false, math.MinInt + 2: false,
	}
	m, _ := mem.New(65536)
	for at, place := range places {
		for size, fits := range sizes {
			q := Ring{At: at, Size: size}
			if place && fits {
				wantRing(t, q, m)
			} else {
				wantNoRing(t, q, m)
			}
		}
	}
}

func wantRing(t *testing.T, q Ring, m *mem.Mem) {
	t.Helper()
	if e := q.Init(m); e != api.OK {
		t.Errorf("%v: Init = %d", q, e)
	}
	push, pop := q.Push(1), q.Pop()
	if push == nil || pop == nil {
		t.Fatalf("%v: none", q)
	}
	wantResult(t, push, result{})
	wantResult(t, pop, result{})
	wantNext(t, push, load(q.At))
	wantNext(t, pop, load(q.At+1))
}

func wantNoRing(t *testing.T, q Ring, m *mem.Mem) {
	t.Helper()
	acts, _ := m.Count()
	for _, m := range []*mem.Mem{m, nil, {}} {
		if e := q.Init(m); e != api.ErrArg {
			t.Errorf("%v: Init = %d", q, e)
		}
	}
	if now, _ := m.Count(); now != acts {
		t.Errorf("%v: Init did an act", q)
	}
	if q.Push(1) != nil || q.Pop() != nil {
		t.Errorf("%v: there is one", q)
	}
}

func TestObjectsOfNone(t *testing.T) {
	var noPusher *Pusher
	var noPopper *Popper
	beyond := Ring{At: 65001, Size: 2}
	m := ready(t, Ring{Size: 2})
	words := m.Words(0, m.Len())
	acts, _ := m.Count()
	for name, s := range map[string]stepper{
		"nil pusher": noPusher, "nil popper": noPopper, "zero pusher": &Pusher{}, "zero popper": &Popper{},
		"pusher of no ring": beyond.Push(1), "popper of no ring": beyond.Pop(),
	} {
		for range 7 {
			for _, m := range []*mem.Mem{m, nil, {}} {
				if s.Step(m) {
					t.Errorf("%s: Step = yes", name)
				}
			}
			if a := s.Next(); a != (api.Act{}) {
				t.Errorf("%s: Next = %v", name, a)
			}
			if r := resultOf(s); r != (result{}) {
				t.Errorf("%s: Result = %v", name, r)
			}
		}
	}
	wantWords(t, m, words...)
	if now, _ := m.Count(); now != acts {
		t.Errorf("%d acts were done", now-acts)
	}
}

// P6.1: Init.

// emptyWords is what the chapter says of a ring with nothing in it, word by word.
func emptyWords(size int) []uint64 {
	l := []uint64{0, 0}
	for i := range size {
		l = append(l, uint64(i), 0)
	}
	return l
}

func TestInitLaysEachWord(t *testing.T) {
	for _, size := range []int{2, 3, 4, 17, 63, 64} {
		for _, at := range []int{0, 1, 5} {
			words := rising(1000, at+2+2*size+3)
			m := with(t, words...)
			acts, laid := m.Count()
			if e := (Ring{At: at, Size: size}).Init(m); e != api.OK {
				t.Fatal(e)
			}
			copy(words[at:], emptyWords(size))
			wantWords(t, m, words...)
			if a, l := m.Count(); a-acts != 2+2*size || l-laid != 2+2*size {
				t.Errorf("size %d: %d acts, %d words were laid", size, a-acts, l-laid)
			}
		}
	}
}

// TestInitFitsJust: the last word of the ring is the last one of the memory.
func TestInitFitsJust(t *testing.T) {
	for _, size := range []int{2, 64} {
		m := with(t, rising(1000, 3+2+2*size)...)
		if e := (Ring{At: 3, Size: size}).Init(m); e != api.OK {
			t.Errorf("size %d: %d", size, e)
		}
		wantWords(t, m, append([]uint64{1000, 1001, 1002}, emptyWords(size)...)...)
	}
}

func TestInitAtTheGreatestPlace(t *testing.T) {
	m, _ := mem.New(65536)
	for at := 64999; at < 65536; at++ {
		m.Store(at, 7)
	}
	q := Ring{At: 65000, Size: 64}
	if e := q.Init(m); e != api.OK {
		t.Fatal(e)
	}
	if l := m.Words(65000, 130); !slices.Equal(l, emptyWords(64)) {
		t.Error(l)
	}
	if l := m.Words(64999, 132); l[0] != 7 || l[131] != 7 {
		t.Error("a word beside the ring changed")
	}
}

func TestInitAgain(t *testing.T) {
	q := Ring{At: 1, Size: 3}
	m := ready(t, q)
	words := m.Words(0, m.Len())
	for v := range uint64(5) {
		wantPush(t, q, m, 70+v, true)
		wantPop(t, q, m, 70+v)
	}
	wantPush(t, q, m, 80, true)
	if e := q.Init(m); e != api.OK {
		t.Fatal(e)
	}
	wantWords(t, m, words...)
	wantNothing(t, q, m)
}

// TestInitOfNotAllWords: the order of the stores is told by what is laid ahead of the first word that isn't there.
func TestInitOfNotAllWords(t *testing.T) {
	for _, size := range []int{2, 3, 64} {
		for there := range 2 + 2*size {
			for _, at := range []int{1, 4} {
				words := rising(1000, at+there)
				m := with(t, words...)
				acts, _ := m.Count()
				if e := (Ring{At: at, Size: size}).Init(m); e != api.ErrRange {
					t.Errorf("size %d, %d words: %d", size, there, e)
				}
				copy(words[at:], emptyWords(size)[:there])
				wantWords(t, m, words...)
				if now, _ := m.Count(); now-acts != there {
					t.Errorf("size %d, %d words: %d acts", size, there, now-acts)
				}
			}
		}
	}
}

func TestInitWithNoMemory(t *testing.T) {
	for name, m := range map[string]*mem.Mem{"nil": nil, "zero": {}} {
		for _, q := range []Ring{{0, 2}, {65000, 64}, {7, 3}} {
			if e := q.Init(m); e != api.ErrNil {
				t.Errorf("%s: %v: %d", name, q, e)
			}
		}
	}
}

func TestInitFarBeyond(t *testing.T) {
	m := with(t, 5, 6)
	for _, q := range []Ring{{2, 2}, {3, 2}, {65000, 64}} {
		if e := q.Init(m); e != api.ErrRange {
			t.Errorf("%v: %d", q, e)
		}
	}
	wantWords(t, m, 5, 6)
}

// The chapter's example, and the one of the whole.

func TestExample(t *testing.T) {
	q := Ring{Size: 2}
	m := ready(t, q)
	wantPush(t, q, m, 5, true)
	wantPush(t, q, m, 6, true)
	wantPush(t, q, m, 7, false)
	wantPop(t, q, m, 5)
	wantPush(t, q, m, 8, true)
	wantPush(t, q, m, 9, false)
	wantPop(t, q, m, 6)
	wantPop(t, q, m, 8)
	wantNothing(t, q, m)
}

// TestFullAndEmpty goes round several times, from full to empty and back.
func TestFullAndEmpty(t *testing.T) {
	for _, size := range []int{2, 3, 5, 64} {
		q := Ring{At: 2, Size: size}
		m := ready(t, q)
		for round := range 4 {
			first := uint64(1000 * round)
			wantNothing(t, q, m)
			for _, v := range rising(first, size) {
				wantPush(t, q, m, v, true)
			}
			wantPush(t, q, m, 77, false)
			for _, v := range rising(first, size) {
				wantPop(t, q, m, v)
			}
		}
		wantNothing(t, q, m)
	}
}
