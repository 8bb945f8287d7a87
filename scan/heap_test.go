package scan_test

import (
	"slices"

	"semispace/api"
	"semispace/evacuate"
	"semispace/graph"
)

// thing is an object or a filler of the tests, on a page. A pointer field of it
// is 0, or the number of another thing plus 1, so that it does not depend on
// addresses.
type thing struct {
	page int
	graph.Node
}

func words(page int, l ...uint64) thing {
	return thing{page, graph.Node{Header: api.Header{Kind: api.Words, Length: len(l)}, Fields: l}}
}

func refs(page int, l ...uint64) thing {
	return thing{page, graph.Node{Header: api.Header{Kind: api.Refs, Length: len(l)}, Fields: l}}
}

func record(page int, m uint32, l ...uint64) thing {
	return thing{page, graph.Node{Header: api.Header{Kind: api.Record, Length: len(l), Map: m}, Fields: l}}
}

func filler(page, n int) thing {
	return thing{page, graph.Node{Header: api.Header{Length: n}, Fields: make([]uint64, n)}}
}

// size is the number of words of a thing.
func (x thing) size() int { return len(x.Fields) + 1 }

// word is the word of the header of a thing.
func (x thing) word() uint64 {
	return 1 + uint64(x.Header.Kind)<<2 + uint64(len(x.Fields))<<4 + uint64(x.Header.Map)<<16
}

// pointers are the numbers of the pointer fields of a thing.
func (x thing) pointers() []int {
	var l []int
	for i := range x.Fields {
		if x.Header.Kind == api.Refs || x.Header.Kind == api.Record && x.Header.Map&(1<<i) != 0 {
			l = append(l, i)
		}
	}
	return l
}

// scene describes a heap: what is on its pages, and which pages are pinned.
type scene struct {
	conf   api.Conf
	space  int
	pinned []int
	things []thing
}

// large reports whether a thing has pages of its own.
func (s scene) large(x thing) bool { return 4*x.size() > s.conf.PageWords }

// addresses are those of all things, each one behind those before it on its
// page.
func (s scene) addresses() []uint64 {
	l, used := make([]uint64, len(s.things)), make([]int, s.conf.Pages)
	for k, x := range s.things {
		l[k] = uint64(4096 + x.page*s.conf.PageWords + used[x.page])
		used[x.page] += x.size()
	}
	return l
}

// valued returns the fields of a thing, with the values that references have.
func (x thing) valued(value []uint64) []uint64 {
	l := slices.Clone(x.Fields)
	for _, i := range x.pointers() {
		l[i] = valueOf(value, l[i])
	}
	return l
}

// valueOf returns the value of a reference to a thing, or 0.
func valueOf(value []uint64, ref uint64) uint64 {
	if ref == 0 {
		return 0
	}
	return value[ref-1]
}

// valuesOf is valueOf for all references of a list.
func valuesOf(value, refs []uint64) []uint64 {
	l := make([]uint64, len(refs))
	for k, ref := range refs {
		l[k] = valueOf(value, ref)
	}
	return l
}

// heap returns the heap of a scene.
func (s scene) heap() api.Heap {
	size := s.conf.PageWords
	h := api.Heap{Conf: s.conf, Words: make([]uint64, size*s.conf.Pages), Pages: make([]api.Page, s.conf.Pages), Space: s.space, Bump: -1}
	at := s.addresses()
	for k, x := range s.things {
		copy(h.Words[at[k]-4096:], append([]uint64{x.word()}, x.valued(at)...))
		p := &h.Pages[x.page]
		*p = api.Page{Kind: api.SmallPage, Space: s.space, Used: p.Used + x.size()}
		if !s.large(x) {
			h.Bump = x.page
			continue
		}
		p.Kind = api.LargePage
		for j := 1; j*size < x.size(); j++ {
			h.Pages[x.page+j] = api.Page{Kind: api.TailPage, Space: s.space}
		}
	}
	for _, i := range s.pinned {
		h.Pages[i].Pins = 1 + i
	}
	return h
}

// queue returns what is in the queue when roots have been forwarded and then so
// many things been scanned.
func (s scene) queue(roots []uint64, steps int) []uint64 {
	var l []uint64
	see := func(ref uint64) {
		if ref != 0 && !slices.Contains(l, ref) {
			l = append(l, ref)
		}
	}
	for _, ref := range roots {
		see(ref)
	}
	for k := range steps {
		x := s.things[l[k]-1]
		for _, i := range x.pointers() {
			see(x.Fields[i])
		}
	}
	return l
}

// copies are where a collection puts things.
type copies struct {
	to          []uint64 // for each thing its new address, or 0
	taken, used []int    // the pages with copies, and how many words each uses
}

// place returns where the things of a queue are, unless there are too few
// FreePages.
func (s scene) place(queue []uint64) (copies, bool) {
	at, h := s.addresses(), s.heap()
	c := copies{to: make([]uint64, len(at))}
	free := 0 // all pages before it are in use or taken
	for _, ref := range queue {
		x := s.things[ref-1]
		if s.large(x) || slices.Contains(s.pinned, x.page) {
			c.to[ref-1] = at[ref-1]
			continue
		}
		k := len(c.taken) - 1
		if k < 0 || c.used[k]+x.size() > s.conf.PageWords {
			for free < len(h.Pages) && h.Pages[free].Kind != api.FreePage {
				free++
			}
			if free == len(h.Pages) {
				return copies{}, false
			}
			c.taken, c.used = append(c.taken, free), append(c.used, 0)
			free++
			k++
		}
		c.to[ref-1] = uint64(4096 + c.taken[k]*s.conf.PageWords + c.used[k])
		c.used[k] += x.size()
	}
	return c, true
}

// model returns the Work when roots have been forwarded and then so many things
// been scanned, and the new address of each thing. It lays out all of it at
// once. There is no such Work if there are too few FreePages.
func (s scene) model(roots []uint64, steps int) (evacuate.Work, []uint64, bool) {
	queue := s.queue(roots, steps)
	c, ok := s.place(queue)
	if !ok {
		return evacuate.Work{}, nil, false
	}
	at := s.addresses()
	w := evacuate.Work{Heap: s.heap(), Taken: c.taken, Queue: valuesOf(c.to, queue), Scanned: steps}
	for k, x := range s.things {
		if x.Header.Kind != api.Filler {
			w.Old = append(w.Old, at[k])
		}
	}
	slices.Sort(w.Old)
	for k, i := range c.taken {
		w.Heap.Pages[i] = api.Page{Kind: api.SmallPage, Space: 1 - s.space, Used: c.used[k]}
	}
	for _, i := range s.pinned {
		if w.Heap.Pages[i].Kind == api.SmallPage {
			w.Heap.Pages[i].Space = 1 - s.space
		}
	}
	for k, ref := range queue {
		x, from, to := s.things[ref-1], at[ref-1], c.to[ref-1]
		values := at // not yet scanned
		if k < steps {
			values = c.to
			w.Report.Steps += 1 + len(x.pointers())
		}
		s.see(&w, x, from, to, x.valued(values))
	}
	return w, c.to, true
}

// see changes a Work as a thing does that is seen, kept or copied, and then has
// these fields.
func (s scene) see(w *evacuate.Work, x thing, from, to uint64, fields []uint64) {
	if from == to {
		w.Report.Kept++
	} else {
		w.Report.Copied++
		w.Heap.Words[from-4096] = 2 + 4*to
	}
	copy(w.Heap.Words[to-4096:], append([]uint64{x.word()}, fields...))
	for j := 0; s.large(x) && j*s.conf.PageWords < x.size(); j++ {
		w.Heap.Pages[x.page+j].Space = 1 - s.space
	}
}

// numbers is a sequence of numbers that look irregular, the same ones in each
// run.
type numbers uint64

// below returns a number from 0 to n-1.
func (x *numbers) below(n int) int {
	*x ^= *x << 13
	*x ^= *x >> 7
	*x ^= *x << 17
	return int(uint64(*x) % uint64(n))
}

// scene returns an irregular scene.
func (x *numbers) scene() scene {
	n := 16 + 4*x.below(13)
	s := scene{conf: api.Conf{PageWords: n, Pages: 8 + x.below(20)}, space: x.below(2)}
	pins := s.conf.Pages / 4 // as many SmallPages may be pinned
	gaps := x.below(3)       // more of them, more FreePages
	for i := 0; i < s.conf.Pages; i++ {
		switch x.below(3 + gaps) {
		case 0, 1:
			for left := n; left > 0 && x.below(12) > 0; {
				size := 1 + x.below(min(left, n/4))
				s.things = append(s.things, x.thing(i, x.below(4), size-1))
				left -= size
			}
			if on := len(s.things); pins > 0 && x.below(3) == 0 && on > 0 && s.things[on-1].page == i {
				s.pinned = append(s.pinned, i)
				pins--
			}
		case 2:
			k := min(1+x.below(4), s.conf.Pages-i)
			least := max((k-1)*n, n/4)
			s.things = append(s.things, x.thing(i, 2+x.below(2), least+x.below(k*n-least)))
			if x.below(2) == 0 {
				s.pinned = append(s.pinned, i)
			}
			i += k - 1
		}
	}
	x.setFields(s)
	return s
}

// thing returns a thing of this kind with so many fields, at most 32 if it is a
// Record.
func (x *numbers) thing(page, kind, n int) thing {
	hd := api.Header{Kind: kind, Length: n}
	if kind == api.Record {
		hd.Map = uint32(x.below(1 << n))
	}
	return thing{page, graph.Node{Header: hd, Fields: make([]uint64, n)}}
}

// setFields gives irregular values to the fields of all objects of a scene. Data
// fields often look like addresses.
func (x *numbers) setFields(s scene) {
	for _, y := range s.things {
		for i := range y.Fields {
			if y.Header.Kind != api.Filler {
				y.Fields[i] = 4096 + uint64(x.below(4*len(s.things)+s.conf.PageWords*s.conf.Pages))
			}
		}
		for _, i := range y.pointers() {
			y.Fields[i] = x.ref(s)
		}
	}
}

// ref returns 0, or a reference to an object of a scene.
func (x *numbers) ref(s scene) uint64 {
	if len(s.things) == 0 || x.below(4) == 0 {
		return 0
	}
	k := x.below(len(s.things))
	if s.things[k].Header.Kind == api.Filler {
		return 0
	}
	return uint64(k + 1)
}

// refs returns n of them.
func (x *numbers) refs(s scene, n int) []uint64 {
	l := make([]uint64, n)
	for k := range l {
		l[k] = x.ref(s)
	}
	return l
}

// sameWork reports whether two Works are equal.
func sameWork(a, b evacuate.Work) bool {
	g, h := a.Heap, b.Heap
	return g.Conf == h.Conf && g.Space == h.Space && g.Bump == h.Bump &&
		slices.Equal(g.Words, h.Words) && slices.Equal(g.Pages, h.Pages) &&
		slices.Equal(a.Old, b.Old) && slices.Equal(a.Taken, b.Taken) && slices.Equal(a.Queue, b.Queue) &&
		a.Scanned == b.Scanned && a.Report == b.Report
}

// roomy returns a copy of a list with room for more, in which marks are that
// must stay.
func roomy[T any](l []T, mark T) []T { return append(slices.Clone(l), mark, mark)[:len(l)] }

// whole returns a copy of a list with what is behind it.
func whole[T any](l []T) []T { return slices.Clone(l[:cap(l)]) }

// roomyWork is roomy for all slices of a Work.
func roomyWork(w evacuate.Work) evacuate.Work {
	w.Heap.Words, w.Heap.Pages = roomy(w.Heap.Words, 77), roomy(w.Heap.Pages, api.Page{Kind: 77})
	w.Old, w.Taken, w.Queue = roomy(w.Old, 77), roomy(w.Taken, 77), roomy(w.Queue, 77)
	return w
}

// wholeWork is whole for all slices of a Work.
func wholeWork(w evacuate.Work) evacuate.Work {
	w.Heap.Words, w.Heap.Pages = whole(w.Heap.Words), whole(w.Heap.Pages)
	w.Old, w.Taken, w.Queue = whole(w.Old), whole(w.Taken), whole(w.Queue)
	return w
}
