package deque

import (
	"math"
	"slices"
	"testing"

	"matryoshka/api"
	"matryoshka/mem"
)

const (
	most = math.MaxUint64
	half = 1 << 63
)

// with is a memory of these words.
func with(t *testing.T, l ...uint64) *mem.Mem {
	t.Helper()
	m, e := mem.New(len(l))
	if e != api.OK {
		t.Fatal(e)
	}
	for at, v := range l {
		if e := m.Store(at, v); e != api.OK {
			t.Fatal(e)
		}
	}
	return m
}

// rising is n words from first on, so that each one differs from the others.
func rising(first uint64, n int) []uint64 {
	l := make([]uint64, n)
	for i := range l {
		l[i] = first + uint64(i)
	}
	return l
}

// behindWords is how many words of a memory of laid are behind the deque.
const behindWords = 3

// laid is a memory of some words ahead, the deque with this top and bottom, and some words behind; each other word is 900 more than its place.
func laid(t *testing.T, d Deque, top, bottom uint64) *mem.Mem {
	t.Helper()
	words := rising(900, d.At+2+d.Size+behindWords)
	words[d.At], words[d.At+1] = top, bottom
	return with(t, words...)
}

func wantWords(t *testing.T, m *mem.Mem, want ...uint64) {
	t.Helper()
	if l := m.Words(0, m.Len()); !slices.Equal(l, want) {
		t.Fatalf("words %v, want %v", l, want)
	}
}

func load(at int) api.Act            { return api.Act{Kind: api.ActLoad, At: at} }
func store(at int, v uint64) api.Act { return api.Act{Kind: api.ActStore, At: at, A: v} }
func cas(at int, position uint64) api.Act {
	return api.Act{Kind: api.ActCas, At: at, A: position, B: position + 1}
}

// slotAt is the word of a position's slot, as the chapter says it.
func slotAt(d Deque, p uint64) int { return d.At + 2 + int(p%uint64(d.Size)) }

// result is what a task answers.
type result struct {
	value    uint64
	is, done bool
}

var nothing = result{done: true}

func all(v uint64) result { return result{v, true, true} }

func resultOf(one *Task) result {
	v, is, done := one.Result()
	return result{v, is, done}
}

func wantResult(t *testing.T, one *Task, want result) {
	t.Helper()
	for range 2 {
		if r := resultOf(one); r != want {
			t.Fatalf("Result = %v, want %v", r, want)
		}
	}
}

func wantNext(t *testing.T, one *Task, want api.Act) {
	t.Helper()
	for range 2 {
		if a := one.Next(); a != want {
			t.Fatalf("Next = %v, want %v", a, want)
		}
	}
}

// laidBy lays into words what an act is to lay there.
func laidBy(words []uint64, a api.Act) {
	switch {
	case a.Kind == api.ActStore:
		words[a.At] = a.A
	case a.Kind == api.ActCas && words[a.At] == a.A:
		words[a.At] = a.B
	}
}

// step does a step whose act is to be want, and behind which the answer is to be r; it does that one act and no other.
func step(t *testing.T, one *Task, m *mem.Mem, want api.Act, r result) {
	t.Helper()
	wantNext(t, one, want)
	words := m.Words(0, m.Len())
	was, laid := m.Count()
	if done := one.Step(m); done != r.done {
		t.Fatalf("%v: Step = %t, want %t", want, done, r.done)
	}
	if now, _ := m.Count(); now != was+1 {
		t.Fatalf("%v: %d acts in one step", want, now-was)
	}
	if _, now := m.Count(); want.Kind == api.ActLoad && now != laid {
		t.Fatalf("%v: a word was laid", want)
	}
	laidBy(words, want)
	wantWords(t, m, words...)
	wantResult(t, one, r)
}

// goOn does steps with these acts, behind none of which it's done.
func goOn(t *testing.T, one *Task, m *mem.Mem, acts ...api.Act) {
	t.Helper()
	for _, a := range acts {
		step(t, one, m, a, result{})
	}
}

// goAll does steps with these acts, behind the last of which it's done with r, and stays so.
func goAll(t *testing.T, one *Task, m *mem.Mem, r result, acts ...api.Act) {
	t.Helper()
	last := len(acts) - 1
	goOn(t, one, m, acts[:last]...)
	step(t, one, m, acts[last], r)
	wantStill(t, one, m)
}

// wantStill: what is done stays so, and does nothing, with any memory.
func wantStill(t *testing.T, one *Task, m *mem.Mem) {
	t.Helper()
	words := m.Words(0, m.Len())
	acts, laid := m.Count()
	was := resultOf(one)
	for range 3 {
		wantNext(t, one, api.Act{})
		for _, m := range []*mem.Mem{m, nil, {}} {
			if !one.Step(m) {
				t.Fatal("Step = no of what is done")
			}
		}
		wantResult(t, one, was)
	}
	wantWords(t, m, words...)
	if a, l := m.Count(); a != acts || l != laid {
		t.Fatalf("%d acts by what is done", a-acts)
	}
}

// finish does steps till it's done, and tells what came of it.
func finish(t *testing.T, one *Task, m *mem.Mem) result {
	t.Helper()
	for range 6 {
		if one.Step(m) {
			return resultOf(one)
		}
	}
	t.Fatal("no end")
	return result{}
}

// wantAlone: what comes of a task that nobody gets in the way of.
func wantAlone(t *testing.T, one *Task, m *mem.Mem, want result) {
	t.Helper()
	if r := finish(t, one, m); r != want {
		t.Fatalf("%v, want %v", r, want)
	}
}

// The line ahead of the promises: which deques there are, and what nil and zero tasks answer.

func TestWhichDequesAre(t *testing.T) {
	places := map[int]bool{
		0: true, 1: true, 64999: true, 65000: true,
		-1: false, -2: false, -65000: false, 65001: false, 65470: false, 65535: false, 65536: false,
		1 << 32: false, 1<<32 + 1: false, math.MaxInt: false, math.MaxInt - 66: false, math.MinInt: false,
	}
	sizes := map[int]bool{
		1: true, 2: true, 3: true, 33: true, 63: true, 64: true,
		-64: false, -2: false, -1: false, 0: false, 65: false, 66: false, 128: false,
		1<<32 + 1: false, math.MaxInt: false, math.MinInt: false, math.MinInt + 1: false,
	}
	for at, place := range places {
		for size, fits := range sizes {
			d := Deque{At: at, Size: size}
			push, pop, steal := d.Push(1), d.Pop(), d.Steal()
			if !place || !fits {
				if push != nil || pop != nil || steal != nil {
					t.Errorf("%v: there is one", d)
				}
				continue
			}
			if push == nil || pop == nil || steal == nil {
				t.Fatalf("%v: none", d)
			}
			wantNext(t, push, load(at+1))
			wantNext(t, pop, load(at+1))
			wantNext(t, steal, load(at))
			for _, one := range []*Task{push, pop, steal} {
				wantResult(t, one, result{})
			}
		}
	}
}

func TestTasksOfNone(t *testing.T) {
	beyond := Deque{At: 65001, Size: 2}
	m := laid(t, Deque{Size: 2}, 0, 1)
	words := m.Words(0, m.Len())
	acts, _ := m.Count()
	for name, one := range map[string]*Task{
		"nil": nil, "zero": {}, "push of no deque": beyond.Push(1), "pop of no deque": beyond.Pop(), "steal of no deque": beyond.Steal(),
	} {
		for range 8 {
			for _, m := range []*mem.Mem{m, nil, {}} {
				if one.Step(m) {
					t.Errorf("%s: Step = yes", name)
				}
			}
			if a := one.Next(); a != (api.Act{}) {
				t.Errorf("%s: Next = %v", name, a)
			}
			if r := resultOf(one); r != (result{}) {
				t.Errorf("%s: Result = %v", name, r)
			}
		}
	}
	wantWords(t, m, words...)
	if now, _ := m.Count(); now != acts {
		t.Errorf("%d acts were done", now-acts)
	}
}

// The chapter's example.

func TestExample(t *testing.T) {
	for _, d := range []Deque{{0, 2}, {3, 3}, {0, 64}} {
		m := laid(t, d, 0, 0)
		wantAlone(t, d.Push(5), m, all(5))
		wantAlone(t, d.Push(6), m, all(6))
		wantAlone(t, d.Steal(), m, all(5))
		wantAlone(t, d.Pop(), m, all(6))
		wantAlone(t, d.Pop(), m, nothing)
		wantAlone(t, d.Steal(), m, nothing)
	}
}

func TestAtTheGreatestPlace(t *testing.T) {
	d := Deque{At: 65000, Size: 64}
	m, _ := mem.New(65066)
	for v := range uint64(64) {
		wantAlone(t, d.Push(100+v), m, all(100+v))
	}
	wantAlone(t, d.Push(164), m, nothing)
	if l := m.Words(65000, 66); !slices.Equal(l, append([]uint64{0, 64}, rising(100, 64)...)) {
		t.Error(l)
	}
	for v := range uint64(32) {
		wantAlone(t, d.Steal(), m, all(100+v))
		wantAlone(t, d.Pop(), m, all(163-v))
	}
	wantAlone(t, d.Pop(), m, nothing)
	wantAlone(t, d.Steal(), m, nothing)
}

// TestGoesRound: an owner and a thief in turns, so that each slot comes up several times.
func TestGoesRound(t *testing.T) {
	for _, size := range []int{1, 2, 3, 5, 63, 64} {
		d := Deque{At: 1, Size: size}
		m := laid(t, d, 0, 0)
		for p := range uint64(5 * size) {
			wantAlone(t, d.Push(100+p), m, all(100+p))
			if l := m.Words(slotAt(d, p), 1); l[0] != 100+p {
				t.Fatalf("size %d, position %d: %v", size, p, l)
			}
			if p%3 == 0 {
				wantAlone(t, d.Pop(), m, all(100+p))
			} else {
				wantAlone(t, d.Steal(), m, all(100+p))
			}
			if l := m.Words(1, 2); l[0] != p+1 || l[1] != p+1 {
				t.Fatalf("size %d, position %d: the ends are %v", size, p, l)
			}
		}
	}
}

// TestDequesSideBySide: what is pushed into one is not taken from another.
func TestDequesSideBySide(t *testing.T) {
	one, other := Deque{At: 0, Size: 2}, Deque{At: 4, Size: 3}
	m := with(t, make([]uint64, 9)...)
	for round := range uint64(7) {
		wantAlone(t, one.Push(100+round), m, all(100+round))
		wantAlone(t, other.Pop(), m, nothing)
		wantAlone(t, other.Steal(), m, nothing)
		wantAlone(t, other.Push(200+round), m, all(200+round))
		wantAlone(t, one.Steal(), m, all(100+round))
		wantAlone(t, one.Steal(), m, nothing)
		wantAlone(t, other.Pop(), m, all(200+round))
	}
}
