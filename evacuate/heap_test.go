package evacuate

import (
	"slices"

	"semispace/api"
	"semispace/object"
	"semispace/page"
)

func filler(n int) api.Header { return api.Header{Length: n} }
func words(n int) api.Header  { return api.Header{Kind: api.Words, Length: n} }
func refs(n int) api.Header   { return api.Header{Kind: api.Refs, Length: n} }

func record(n int, m uint32) api.Header {
	return api.Header{Kind: api.Record, Length: n, Map: m}
}

// conf has few small pages, and wide has many great ones.
var (
	conf = api.Conf{PageWords: 16, Pages: 8}
	wide = api.Conf{PageWords: 64, Pages: 64}
)

// empty returns a heap of this space without objects.
func empty(c api.Conf, space int) api.Heap {
	h, _ := page.New(c)
	h.Space = space
	return h
}

// small puts objects and fillers on page i, one behind the other.
func small(h *api.Heap, i int, l ...api.Header) {
	h.Pages[i] = api.Page{Kind: api.SmallPage, Space: h.Space}
	for _, hd := range l {
		at := uint64(4096 + i*h.Conf.PageWords + h.Pages[i].Used)
		h.Pages[i].Used += hd.Length + 1
		*h, _ = object.Init(*h, at, hd)
	}
}

// large puts an object on page i and as many behind it as it needs.
func large(h *api.Heap, i int, hd api.Header) {
	h.Pages[i] = api.Page{Kind: api.LargePage, Space: h.Space, Used: hd.Length + 1}
	for j := 1; j*h.Conf.PageWords <= hd.Length; j++ {
		h.Pages[i+j] = api.Page{Kind: api.TailPage, Space: h.Space}
	}
	*h, _ = object.Init(*h, uint64(4096+i*h.Conf.PageWords), hd)
}

// ordinary returns a good heap of this space with each kind of page:
//
//   - page 0, at 4096: a Record at 4096 with the field 8 and a pointer to 4104,
//     Fillers at 4099 and 4102, Words at 4103 and 4104, and four free words
//   - page 1, at 4112: Refs of 19 fields, up to 4131 on page 2, of which the
//     first field refers to 4096, the next to 4112, and the last to 4176
//   - page 3, at 4144: on which objects are pinned: Refs at 4144, whose field
//     refers to 4180, a Filler at 4146, and Words at 4148
//   - page 4, at 4160: a FreePage
//   - page 5, at 4176: four objects of four words, up to its last word
//   - page 6, at 4192: Words up to its last word, pinned
//   - page 7, at 4208: a FreePage
func ordinary(space int) api.Heap {
	h := empty(conf, space)
	small(&h, 0, record(2, 2), filler(2), filler(0), words(0), words(3))
	large(&h, 1, refs(19))
	small(&h, 3, refs(1), filler(1), words(2))
	small(&h, 5, words(3), refs(3), words(3), record(3, 0))
	large(&h, 6, words(15))
	copy(h.Words[1:], []uint64{8, 4104})
	copy(h.Words[9:], []uint64{5, 4097, 1<<64 - 1})
	h.Words[17], h.Words[18], h.Words[35] = 4096, 4112, 4176
	h.Words[49], h.Words[53] = 4180, 4148
	h.Words[81], h.Words[87], h.Words[93], h.Words[97], h.Words[111] = 1, 4188, 16386, 4096, 3
	h.Pages[3].Pins, h.Pages[6].Pins = 1, 1<<31-1
	h.Bump = 0
	return h
}

// all are the objects of a heap of ordinary.
var all = []uint64{4096, 4103, 4104, 4112, 4144, 4148, 4176, 4180, 4184, 4188, 4192}

// noObjects are what is no address of an object in a heap of ordinary.
var noObjects = []uint64{
	1, 2, 4095, // in front of the arena
	4097, 4098, 4105, 4107, 4113, 4131, 4145, 4149, 4177, 4207, // fields
	4099, 4102, 4146, // fillers
	4100, 4101, 4147, // words of fillers
	4108, 4111, 4132, 4143, 4151, 4159, // free words behind objects
	4128, 4160, 4175, 4208, 4223, // a TailPage and FreePages
	4224, 4225, 1<<32 + 4096, 1<<63 + 4096, 1 << 63, 1<<64 - 1, // behind the arena
}

// model returns the Work in which exactly these objects have been seen, in this
// order, and the new address of each. It lays out all copies at once, from the
// heap as it was before. There is no such Work if there are too few FreePages.
func model(h api.Heap, seen []uint64) (Work, []uint64, bool) {
	w := Work{Heap: copyOf(h), Old: modelObjects(h)}
	for i, p := range h.Pages {
		if p.Kind == 1 && p.Pins != 0 {
			w.Heap.Pages[i].Space = 1 - h.Space
		}
	}
	var free []int
	for i, p := range h.Pages {
		if p.Kind == 0 {
			free = append(free, i)
		}
	}
	var copies [][]uint64 // what is on each of the first FreePages
	for _, ref := range seen {
		at, i := int(ref-4096), int(ref-4096)/h.Conf.PageWords
		if h.Pages[i].Kind == 2 || h.Pages[i].Pins != 0 {
			for j := i; h.Pages[i].Kind == 2 && j*h.Conf.PageWords < i*h.Conf.PageWords+h.Pages[i].Used; j++ {
				w.Heap.Pages[j].Space = 1 - h.Space
			}
			w.Queue = append(w.Queue, ref)
			w.Report.Kept++
			continue
		}
		l := h.Words[at:][:h.Words[at]/16%4096+1]
		if k := len(copies) - 1; k < 0 || len(copies[k])+len(l) > h.Conf.PageWords {
			copies = append(copies, nil)
		}
		k := len(copies) - 1
		if k == len(free) {
			return Work{}, nil, false
		}
		to := uint64(4096 + free[k]*h.Conf.PageWords + len(copies[k]))
		copies[k] = append(copies[k], l...)
		w.Heap.Words[at] = 2 + 4*to
		w.Queue = append(w.Queue, to)
		w.Report.Copied++
	}
	for k, l := range copies {
		w.Taken = append(w.Taken, free[k])
		w.Heap.Pages[free[k]] = api.Page{Kind: 1, Space: 1 - h.Space, Used: len(l)}
		copy(w.Heap.Words[free[k]*h.Conf.PageWords:], l)
	}
	return w, slices.Clone(w.Queue), true
}

// modelObjects returns the addresses of the objects of a heap that can be read.
func modelObjects(h api.Heap) []uint64 {
	var l []uint64
	for i, p := range h.Pages {
		for at := i * h.Conf.PageWords; at < i*h.Conf.PageWords+p.Used; at += int(h.Words[at]/16%4096) + 1 {
			if h.Words[at]/4%4 != 0 {
				l = append(l, uint64(4096+at))
			}
		}
	}
	return l
}

// numbers is a sequence of numbers that look irregular, the same ones in each
// run.
type numbers uint64

// below returns a number from 0 to n-1.
func (x *numbers) below(n int) int {
	*x ^= *x << 13
	*x ^= *x >> 7
	*x ^= *x << 17
	return int(uint64(*x) % uint64(n))
}

// header returns a header of n words, at most 33.
func (x *numbers) header(n int) api.Header {
	return []api.Header{filler(n - 1), record(n-1, uint32(x.below(1<<(n-1)))), refs(n - 1), words(n - 1)}[x.below(4)]
}

// irregular returns an irregular good heap.
func (x *numbers) irregular() api.Heap {
	n := 16 + 4*x.below(13)
	h := empty(api.Conf{PageWords: n, Pages: 8 + x.below(20)}, x.below(2))
	pinned := 0
	for i := 0; i < len(h.Pages); i++ {
		switch x.below(4) {
		case 0:
			k := min(1+x.below(4), len(h.Pages)-i)
			hd := words(max((k-1)*n, n/4) + x.below(k*n-max((k-1)*n, n/4)))
			hd.Kind -= x.below(2) // or Refs
			large(&h, i, hd)
			h.Pages[i].Pins = x.below(2)
			i += k - 1
		case 1, 2:
			var l []api.Header
			for left := n; left > 0 && x.below(10) > 0; left -= l[len(l)-1].Length + 1 {
				l = append(l, x.header(1+x.below(min(left, n/4))))
			}
			small(&h, i, l...)
			h.Bump = i
			if pinned < len(h.Pages)/4 && x.below(3) == 0 {
				h.Pages[i].Pins = 1 + x.below(3)
				pinned++
			}
		}
	}
	x.setFields(h)
	return h
}

// setFields sets all fields of a good heap to irregular values.
func (x *numbers) setFields(h api.Heap) {
	l := modelObjects(h)
	for _, addr := range l {
		at := int(addr - 4096)
		hd, _ := object.Get(h, addr)
		for i := range hd.Length {
			switch pointer := hd.Kind == api.Refs || hd.Map>>i%2 == 1; {
			case pointer && x.below(4) > 0:
				h.Words[at+1+i] = l[x.below(len(l))]
			case !pointer:
				h.Words[at+1+i] = uint64(x.below(20000))
			}
		}
	}
}

// copyOf returns a copy of a heap.
func copyOf(h api.Heap) api.Heap {
	h.Words = slices.Clone(h.Words)
	h.Pages = slices.Clone(h.Pages)
	return h
}

// sameHeap reports whether two heaps are equal.
func sameHeap(a, b api.Heap) bool {
	return a.Conf == b.Conf && slices.Equal(a.Words, b.Words) && slices.Equal(a.Pages, b.Pages) && a.Space == b.Space && a.Bump == b.Bump
}

// sameWork reports whether two Works are equal.
func sameWork(a, b Work) bool {
	return sameHeap(a.Heap, b.Heap) && slices.Equal(a.Old, b.Old) && slices.Equal(a.Taken, b.Taken) &&
		slices.Equal(a.Queue, b.Queue) && a.Scanned == b.Scanned && a.Report == b.Report
}

// copyOfWork returns a copy of a Work. With room, its slices have memory behind
// them that contains marks, which must stay.
func copyOfWork(w Work, room bool) Work {
	w.Heap.Words = extended(w.Heap.Words, room, 77)
	w.Heap.Pages = extended(w.Heap.Pages, room, api.Page{Kind: 77})
	w.Old = extended(w.Old, room, 77)
	w.Taken = extended(w.Taken, room, 77)
	w.Queue = extended(w.Queue, room, 77)
	return w
}

// extended returns a copy of a list with one mark behind it, or with none.
func extended[T any](l []T, room bool, mark T) []T {
	if !room {
		return slices.Clip(slices.Clone(l))
	}
	return append(slices.Clip(slices.Clone(l)), mark)[:len(l)]
}

// whole returns a Work with the memory behind its slices.
func whole(w Work) Work {
	w.Heap.Words = w.Heap.Words[:cap(w.Heap.Words)]
	w.Heap.Pages = w.Heap.Pages[:cap(w.Heap.Pages)]
	w.Old = w.Old[:cap(w.Old)]
	w.Taken = w.Taken[:cap(w.Taken)]
	w.Queue = w.Queue[:cap(w.Queue)]
	return w
}

// overwrite changes all memory of a Work.
func overwrite(w Work) {
	w = whole(w)
	for _, l := range [][]uint64{w.Heap.Words, w.Old, w.Queue} {
		for i := range l {
			l[i] = 99
		}
	}
	for i := range w.Heap.Pages {
		w.Heap.Pages[i] = api.Page{Kind: 99}
	}
	for i := range w.Taken {
		w.Taken[i] = 99
	}
}
