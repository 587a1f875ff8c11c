package npt

import (
	"math"
	"slices"
	"testing"

	"matryoshka/api"
	"matryoshka/desc"
	"matryoshka/mem"
	"matryoshka/pool"
)

// What should stand in words, frames and pages is told here by trees of nodes and by sums, apart from how the program tells it.

const (
	least    = math.MinInt
	greatest = math.MaxInt
)

func noPages() []int {
	return []int{-1, 65536, 65537, -65536, 1 << 20, 1 << 32, 1 << 60, least, least + 1, greatest}
}

func noFrames() []int { return []int{-1, 4096, 4097, -4096, 65536, 1 << 32, least, greatest} }

func noRights() []int { return []int{0, 8, -1, 9, -7, 16, 1 << 32, least, least + 1, greatest} }

func noOwners() []int { return []int{0, -1, 17, 256, least, greatest} }

// junk stands in each word at first: none is right, and no two are alike.
func junk(at int) uint64 { return 1<<40 + uint64(at)*2 }

// place is the place of a page's entry in a table of a level.
func place(page, level int) int {
	for range level {
		page /= 16
	}
	return page % 16
}

// leaf is an entry that leads to frames of a page, or of sixteen.
type leaf struct {
	frame, rights int
	large         bool
}

func (l leaf) word() uint64 {
	word := uint64(l.frame)*4096 + uint64(l.rights)*2 + 1
	if l.large {
		word += 16
	}
	return word
}

// node is a table.
type node struct {
	frame, level int
	nodes        map[int]*node
	leaves       map[int]leaf
}

func newNode(frame, level int) *node {
	return &node{frame: frame, level: level, nodes: map[int]*node{}, leaves: map[int]leaf{}}
}

func (n *node) isEmpty() bool { return len(n.nodes) == 0 && len(n.leaves) == 0 }

// frames is those of a node and of all below it.
func (n *node) frames() []int {
	l := []int{n.frame}
	for _, below := range n.nodes {
		l = append(l, below.frames()...)
	}
	slices.Sort(l)
	return l
}

// mapped is to what a page is mapped.
type mapped struct {
	frame, rights int
}

// world is a memory and a pool, and how their words and frames should stand.
type world struct {
	*testing.T
	m          *mem.Mem
	p          *pool.Pool
	words      []uint64
	descs      []desc.Desc
	done, laid int
	guests     []*guest
	came       map[string]map[api.Errno]int
}

// guest is tables, and what they should map: by nodes, and by pages alone.
type guest struct {
	*world
	x     *Tables
	owner int
	root  *node
	pages map[int]mapped
}

func begin(t *testing.T, frames, words int) *world {
	t.Helper()
	m, e := mem.New(words)
	p, fault := pool.New(frames)
	if e != api.OK || fault != api.OK {
		t.Fatal(e, fault)
	}
	for at := range words {
		m.Store(at, junk(at))
	}
	w := &world{T: t, m: m, p: p, words: m.Words(0, words), descs: make([]desc.Desc, frames), came: map[string]map[api.Errno]int{}}
	w.done, w.laid = m.Count()
	return w
}

// turn makes a frame another kind from outside.
func (w *world) turn(f, kind, owner int) {
	w.Helper()
	if e := w.p.Turn(f, kind, owner); e != api.OK {
		w.Fatalf("Turn(%d, %d, %d) = %d", f, kind, owner, e)
	}
	w.descs[f], _ = w.p.Of(f)
}

// hold takes free frames away.
func (w *world) hold(frames ...int) {
	w.Helper()
	for _, f := range frames {
		w.turn(f, desc.Guest, 9)
	}
}

func (w *world) free() []int {
	var l []int
	for f, d := range w.descs {
		if d == (desc.Desc{}) {
			l = append(l, f)
		}
	}
	return l
}

// leave takes free frames away, till there are n of them.
func (w *world) leave(n int) {
	w.Helper()
	l := w.free()
	if len(l) < n {
		w.Fatalf("%v is less than %d", l, n)
	}
	w.hold(l[n:]...)
}

// giveRetired makes all retired frames free.
func (w *world) giveRetired() {
	w.Helper()
	for f, d := range w.descs {
		if d.Kind == desc.Retired {
			w.turn(f, desc.Free, 0)
		}
	}
}

// did compares what a call told with what it should, and all that is to be seen behind it.
func (w *world) did(what string, got, want api.Errno) api.Errno {
	w.Helper()
	if got != want {
		w.Fatalf("%s: the error %d, want %d", what, got, want)
	}
	if w.came[what] == nil {
		w.came[what] = map[api.Errno]int{}
	}
	w.came[what][got]++
	done, laid := w.m.Count()
	if laid != w.laid || got != api.OK && done != w.done {
		w.Fatalf("%s (%d): %d acts were done, and %d words laid, want %d words", what, got, done-w.done, laid-w.laid, w.laid-laid)
	}
	w.done = done
	w.compare(what)
	return got
}

func (w *world) compare(what string) {
	w.Helper()
	for at, word := range w.m.Words(0, w.m.Len()) {
		if word != w.words[at] {
			w.Fatalf("%s: the word %d of the frame %d is %#x, want %#x", what, at%16, at/16, word, w.words[at])
		}
	}
	for f, d := range w.descs {
		if is, _ := w.p.Of(f); is != d {
			w.Fatalf("%s: the frame %d is %v, want %v", what, f, is, d)
		}
	}
	for _, g := range w.guests {
		g.wantAll(g.root.frames())
		if f := g.x.Root(); f != g.root.frame {
			w.Fatalf("%s: Root = %d, want %d", what, f, g.root.frame)
		}
	}
}

// wantAll asks for the list twice, and spoils the first one, with the room behind it.
func (g *guest) wantAll(want []int) {
	g.Helper()
	for range 2 {
		l := g.x.All()
		if !slices.Equal(l, want) {
			g.Fatalf("All = %v, want %v", l, want)
		}
		spoil(l)
	}
}

func spoil(l []int) {
	l = l[:cap(l)]
	for i := range l {
		l[i] = -7
	}
}

func (w *world) want(got, e api.Errno) {
	w.Helper()
	if got != e {
		w.Fatalf("the error %d, want %d", got, e)
	}
}

// lay is how a word should be laid.
func (w *world) lay(at int, word uint64) {
	w.words[at] = word
	w.laid++
}

// take is the frame that should be taken, with these words.
func (w *world) take(owner int, word func(i int) uint64) int {
	f := w.free()[0]
	w.descs[f] = desc.Desc{Kind: desc.Table, Owner: owner}
	for i := range 16 {
		w.lay(16*f+i, word(i))
	}
	return f
}

func zero(i int) uint64 { return 0 }

// open makes tables.
func (w *world) open(owner int) *guest {
	w.Helper()
	x, e := New(w.m, w.p, owner)
	if e != api.OK || x == nil {
		w.Fatalf("New of %d: %v, %d", owner, x, e)
	}
	g := &guest{world: w, x: x, owner: owner, root: newNode(w.take(owner, zero), 3), pages: map[int]mapped{}}
	w.guests = append(w.guests, g)
	w.did("New", e, api.OK)
	return g
}

// close drops tables.
func (g *guest) close() []int {
	g.Helper()
	want := g.root.frames()
	for _, f := range want {
		g.descs[f] = desc.Desc{Kind: desc.Retired, Owner: g.owner}
	}
	g.guests = slices.DeleteFunc(g.guests, func(one *guest) bool { return one == g })
	l := g.x.Drop()
	if !slices.Equal(l, want) {
		g.Fatalf("Drop = %v, want %v", l, want)
	}
	told := slices.Clone(l)
	spoil(l)
	g.did("Drop", api.OK, api.OK)
	return told
}

// way is the nodes on a page's way, down to a level at most.
func (g *guest) way(page, lowest int) []*node {
	l := []*node{g.root}
	for n := g.root; n.level > lowest; l = append(l, n) {
		if n = n.nodes[place(page, n.level)]; n == nil {
			break
		}
	}
	return l
}

// hang lays a table below a node.
func (g *guest) hang(n *node, page int, word func(i int) uint64) *node {
	below := newNode(g.take(g.owner, word), n.level-1)
	n.nodes[place(page, n.level)] = below
	g.lay(16*n.frame+place(page, n.level), uint64(below.frame)*4096+1)
	return below
}

// putError is what a Map (of a level 0), or a Large (of 1), should tell.
func (g *guest) putError(page, level, frame, rights int) api.Errno {
	size := 1 + 15*level
	if page < 0 || page > 65535 || frame < 0 || frame > 4095 {
		return api.ErrRange
	}
	if rights < 1 || rights > 7 {
		return api.ErrRight
	}
	if page%size+frame%size > 0 {
		return api.ErrAlign
	}
	for i := range size {
		if _, ok := g.pages[page+i]; ok {
			return api.ErrTwice
		}
	}
	way := g.way(page, level)
	if len(g.free()) < way[len(way)-1].level-level {
		return api.ErrFrame
	}
	return api.OK
}

func (g *guest) put(what string, got api.Errno, page, level, frame, rights int) api.Errno {
	g.Helper()
	e := g.putError(page, level, frame, rights)
	if e == api.OK {
		way := g.way(page, level)
		n := way[len(way)-1]
		for n.level > level {
			n = g.hang(n, page, zero)
		}
		l := leaf{frame, rights, level == 1}
		n.leaves[place(page, level)] = l
		g.lay(16*n.frame+place(page, level), l.word())
		for i := range 1 + 15*level {
			g.pages[page+i] = mapped{frame + i, rights}
		}
	}
	return g.did(what, got, e)
}

func (g *guest) Map(page, frame, rights int) api.Errno {
	g.Helper()
	return g.put("Map", g.x.Map(page, frame, rights), page, 0, frame, rights)
}

func (g *guest) Large(page, frame, rights int) api.Errno {
	g.Helper()
	return g.put("Large", g.x.Large(page, frame, rights), page, 1, frame, rights)
}

// isLarge: is there a large entry on the page's way?
func (g *guest) isLarge(page int) (leaf, bool) {
	for _, n := range g.way(page, 1) {
		if l, ok := n.leaves[place(page, 1)]; n.level == 1 && ok {
			return l, true
		}
	}
	return leaf{}, false
}

// split is what becomes of a large entry on the page's way.
func (g *guest) split(page int) {
	l, _ := g.isLarge(page)
	n := g.way(page, 1)[2]
	delete(n.leaves, place(page, 1))
	part := func(i int) leaf { return leaf{l.frame + i, l.rights, false} }
	below := g.hang(n, page, func(i int) uint64 { return part(i).word() })
	for i := range 16 {
		below.leaves[i] = part(i)
	}
}

// pageError is what a call to a page that should be mapped should tell; rights are 1, where none are handed in.
func (g *guest) pageError(page, rights int) api.Errno {
	if page < 0 || page > 65535 {
		return api.ErrRange
	}
	if rights < 1 || rights > 7 {
		return api.ErrRight
	}
	if _, ok := g.pages[page]; !ok {
		return api.ErrNone
	}
	return api.OK
}

func (g *guest) Unmap(page int) (int, api.Errno) {
	g.Helper()
	f, got := g.x.Unmap(page)
	e, was := g.pageError(page, 1), g.pages[page]
	_, large := g.isLarge(page)
	if e == api.OK && large && len(g.free()) == 0 {
		e, was = api.ErrFrame, mapped{}
	}
	if e == api.OK {
		if large {
			g.split(page)
		}
		g.unmap(page)
	}
	if f != was.frame {
		g.Fatalf("Unmap of %#x = %d, want %d", page, f, was.frame)
	}
	return f, g.did("Unmap", got, e)
}

func (g *guest) unmap(page int) {
	delete(g.pages, page)
	way := g.way(page, 0)
	delete(way[3].leaves, place(page, 0))
	g.lay(16*way[3].frame+place(page, 0), 0)
	for level := 0; level < 3 && way[3-level].isEmpty(); level++ {
		above := way[2-level]
		delete(above.nodes, place(page, level+1))
		g.lay(16*above.frame+place(page, level+1), 0)
		g.descs[way[3-level].frame] = desc.Desc{Kind: desc.Retired, Owner: g.owner}
	}
}

func (g *guest) Protect(page, rights int) api.Errno {
	g.Helper()
	got := g.x.Protect(page, rights)
	e, was := g.pageError(page, rights), g.pages[page]
	if e != api.OK || was.rights == rights {
		return g.did("Protect", got, e)
	}
	if _, large := g.isLarge(page); large {
		if len(g.free()) == 0 {
			return g.did("Protect", got, api.ErrFrame)
		}
		g.split(page)
	}
	g.pages[page] = mapped{was.frame, rights}
	n, l := g.way(page, 0)[3], leaf{was.frame, rights, false}
	n.leaves[place(page, 0)] = l
	g.lay(16*n.frame+place(page, 0), l.word())
	return g.did("Protect", got, api.OK)
}

func (g *guest) Query(page int) (int, int, api.Errno) {
	g.Helper()
	f, r, got := g.x.Query(page)
	if was := g.pages[page]; f != was.frame || r != was.rights {
		g.Fatalf("Query of %#x = %d, %d, want %v", page, f, r, was)
	}
	return f, r, g.did("Query", got, g.pageError(page, 1))
}

func (g *guest) wantMap(page, frame, rights int, e api.Errno) {
	g.Helper()
	g.want(g.Map(page, frame, rights), e)
}

func (g *guest) wantLarge(page, frame, rights int, e api.Errno) {
	g.Helper()
	g.want(g.Large(page, frame, rights), e)
}

func (g *guest) wantUnmap(page, frame int, e api.Errno) {
	g.Helper()
	f, got := g.Unmap(page)
	g.want(got, e)
	if f != frame {
		g.Fatalf("Unmap of %#x = %d, want %d", page, f, frame)
	}
}

func (g *guest) wantProtect(page, rights int, e api.Errno) {
	g.Helper()
	g.want(g.Protect(page, rights), e)
}

func (g *guest) wantQuery(page, frame, rights int, e api.Errno) {
	g.Helper()
	f, r, got := g.Query(page)
	g.want(got, e)
	if f != frame || r != rights {
		g.Fatalf("Query of %#x = %d, %d, want %d, %d", page, f, r, frame, rights)
	}
}

// wantTables: so many tables, of so many frames that are not free.
func (g *guest) wantTables(frames ...int) {
	g.Helper()
	g.wantAll(frames)
	if n := g.p.Count(desc.Table); len(g.guests) == 1 && n != len(frames) {
		g.Fatalf("%d frames are tables, want %v", n, frames)
	}
}

// wantWord holds a word against what is written out.
func (w *world) wantWord(frame, i int, want uint64) {
	w.Helper()
	if l := w.m.Words(16*frame+i, 1); l[0] != want {
		w.Fatalf("the word %d of the frame %d is %#x, want %#x", i, frame, l[0], want)
	}
}

// wantRetired: just these frames are.
func (w *world) wantRetired(owner int, frames ...int) {
	w.Helper()
	var l []int
	for f := range w.descs {
		d, _ := w.p.Of(f)
		if d.Kind == desc.Retired && d.Owner == owner {
			l = append(l, f)
		}
	}
	if !slices.Equal(l, frames) {
		w.Fatalf("%v are retired, want %v", l, frames)
	}
}
