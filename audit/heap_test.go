package audit

import (
	"cmp"
	"math"
	"slices"

	"semispace/api"
	"semispace/page"
)

// wordOf is the word of a header, in numbers instead of bits.
func wordOf(hd api.Header) uint64 {
	return 1 + 4*uint64(hd.Kind) + 16*uint64(hd.Length) + 65536*uint64(hd.Map)
}

func filler(n int) api.Header { return api.Header{Length: n} }
func words(n int) api.Header  { return api.Header{Kind: api.Words, Length: n} }
func refs(n int) api.Header   { return api.Header{Kind: api.Refs, Length: n} }

func record(n int, m uint32) api.Header {
	return api.Header{Kind: api.Record, Length: n, Map: m}
}

// sheet is what the tests put on a page, in this order: a LargePage has one
// thing, which reaches over the next pages if it has to.
type sheet struct {
	kind int
	l    []api.Header
}

func small(l ...api.Header) sheet { return sheet{api.SmallPage, l} }
func large(hd api.Header) sheet   { return sheet{api.LargePage, []api.Header{hd}} }

// build returns a heap of this space with these sheets. All fields are 0. The
// memory behind its slices contains marks, which must stay.
func build(c api.Conf, space int, sheets ...sheet) api.Heap {
	n := c.PageWords * c.Pages
	h := api.Heap{Conf: c, Words: make([]uint64, n+2), Pages: make([]api.Page, c.Pages+2), Space: space, Bump: -1}
	h.Words[n], h.Words[n+1] = 77, 78
	h.Pages[c.Pages].Kind, h.Pages[c.Pages+1].Kind = 77, 78
	h.Words, h.Pages = h.Words[:n], h.Pages[:c.Pages]
	for i, s := range sheets {
		if s.kind != 0 {
			h.Pages[i] = api.Page{Kind: s.kind, Space: space}
		}
		for _, hd := range s.l {
			h.Words[i*c.PageWords+h.Pages[i].Used] = wordOf(hd)
			h.Pages[i].Used += hd.Length + 1
		}
		for j := 1; s.kind == api.LargePage && j*c.PageWords < h.Pages[i].Used; j++ {
			h.Pages[i+j] = api.Page{Kind: api.TailPage, Space: space}
		}
	}
	return h
}

// conf has small pages, and wide has many great ones.
var (
	conf = api.Conf{PageWords: 16, Pages: 8}
	wide = api.Conf{PageWords: 64, Pages: 64}
)

// ordinary returns a good heap with each kind of page:
//
//   - page 0, at 4096: a Record at 4096 with the field 8 and a pointer to 4104,
//     Fillers at 4099 and 4102, Words at 4103 and 4104, and four free words
//   - page 1, at 4112: Refs of 19 fields, up to 4131 on page 2, of which the
//     first field refers to 4096, the next to 4112, and the last to 4192
//   - page 3, at 4144: a FreePage
//   - page 4, at 4160: a SmallPage without objects, on which objects are pinned
//   - page 5, at 4176: four objects up to its last word, one of them pinned
//   - page 6, at 4192: Words up to its last word, pinned
//   - page 7, at 4208: Words up to 4212
func ordinary(space int) api.Heap {
	h := build(conf, space,
		small(record(2, 2), filler(2), filler(0), words(0), words(3)), large(refs(19)), sheet{}, sheet{},
		small(), small(words(3), refs(3), filler(3), words(3)), large(words(15)), large(words(4)))
	copy(h.Words[1:], []uint64{8, 4104})
	copy(h.Words[9:], []uint64{5, 4097, math.MaxUint64})
	h.Words[17], h.Words[18], h.Words[35] = 4096, 4112, 4192
	h.Words[81], h.Words[93], h.Words[98], h.Words[116] = 1, 4098, 2, 3
	h.Pages[4].Pins, h.Pages[5].Pins, h.Pages[6].Pins = 1, math.MaxInt32, math.MaxInt32
	h.Bump = 0
	return h
}

// thing is an object or a filler, as the model reads it.
type thing struct {
	at                 int // index of its first word
	kind, length, bits uint64
}

// read returns the thing at an index, and whether there is one.
func read(h api.Heap, at int) (thing, bool) {
	w := h.Words[at]
	x := thing{at, w / 4 % 4, w / 16 % 4096, w / 65536}
	most, bits := uint64(255), uint64(1)
	if x.kind == 1 {
		most, bits = 32, 1<<min(x.length, 32)
	}
	return x, w%4 == 1 && x.length <= most && x.bits < bits
}

// sheetOf returns what is on a page, and whether that can be said.
func sheetOf(h api.Heap, i int) ([]thing, bool) {
	var l []thing
	first := i * h.Conf.PageWords
	for at := first; at < first+h.Pages[i].Used; {
		x, ok := read(h, at)
		at += int(x.length) + 1
		if !ok || at > first+h.Pages[i].Used || h.Pages[i].Kind == 2 && at != first+h.Pages[i].Used {
			return nil, false
		}
		l = append(l, x)
	}
	return l, true
}

// ranked is a finding of the model. The least rank comes first.
type ranked struct {
	rank []int
	f    Finding
}

// model is the chapter's first finding, as the least one of all that are there.
func model(h api.Heap) Finding {
	if !page.Proper(h) {
		return Finding{1, 0, 0}
	}
	var l []ranked
	var objects []thing
	used := make([]bool, len(h.Words))
	for i, p := range h.Pages {
		if p.Kind != 0 && p.Space != h.Space {
			l = append(l, ranked{[]int{1, i, 1}, Finding{2, i, 0}})
		}
		things, ok := sheetOf(h, i)
		if !ok {
			l = append(l, ranked{[]int{1, i, 2}, Finding{3, i, 0}})
		}
		for _, x := range things {
			small := int(x.length)+1 <= h.Conf.PageWords/4
			if p.Kind == 1 && !small || p.Kind == 2 && x.kind == 0 {
				l = append(l, ranked{[]int{1, i, 3, x.at}, Finding{5, i, uint64(4096 + x.at)}})
			}
			used[x.at] = true
			for k := 1; x.kind != 0 && k <= int(x.length); k++ {
				used[x.at+k] = true
			}
			if x.kind != 0 {
				objects = append(objects, x)
			}
		}
	}
	for at, w := range h.Words {
		if i := at / h.Conf.PageWords; w != 0 && !used[at] {
			l = append(l, ranked{[]int{1, i, 4, at}, Finding{4, i, uint64(4096 + at)}})
		}
	}
	l = append(l, modelPointers(h, objects)...)
	if crowd := pinned(h); 4*crowd > len(h.Pages) {
		l = append(l, ranked{[]int{3}, Finding{7, 0, 0}})
	}
	if len(l) == 0 {
		return Finding{}
	}
	return slices.MinFunc(l, func(a, b ranked) int { return slices.Compare(a.rank, b.rank) }).f
}

// modelPointers returns the findings of all pointer fields.
func modelPointers(h api.Heap, objects []thing) []ranked {
	var l []ranked
	for _, x := range objects {
		for k := range int(x.length) {
			at := x.at + 1 + k
			pointer := x.kind == 2 || x.kind == 1 && x.bits>>k%2 == 1
			if pointer && !modelRefers(objects, h.Words[at]) {
				l = append(l, ranked{[]int{2, at}, Finding{6, at / h.Conf.PageWords, uint64(4096 + at)}})
			}
		}
	}
	return l
}

// modelRefers reports whether a word is 0 or the address of one of the objects.
func modelRefers(objects []thing, w uint64) bool {
	return w == 0 || slices.ContainsFunc(objects, func(x thing) bool { return w == uint64(4096+x.at) })
}

// pinned counts SmallPages with Pins.
func pinned(h api.Heap) int {
	n := 0
	for _, p := range h.Pages {
		if p.Kind == 1 && p.Pins > 0 {
			n++
		}
	}
	return n
}

// numbers is a sequence of numbers that look irregular, the same ones in each
// run.
type numbers uint64

// below returns a number from 0 to n-1.
func (x *numbers) below(n int) int {
	*x ^= *x << 13
	*x ^= *x >> 7
	*x ^= *x << 17
	return int(uint64(*x) % uint64(n))
}

// header returns a header of low to high words.
func (x *numbers) header(low, high int) api.Header {
	n := low - 1 + x.below(high-low+1)
	switch kind := x.below(4); {
	case kind == api.Record && n <= 32:
		return record(n, uint32(x.below(1<<n)))
	case kind == api.Filler:
		return filler(n)
	case kind == api.Refs:
		return refs(n)
	}
	return words(n)
}

// irregular returns an irregular good heap.
func (x *numbers) irregular() api.Heap {
	c := api.Conf{PageWords: 16 + 4*x.below(13), Pages: 8 + x.below(20)}
	var sheets []sheet
	for len(sheets) < c.Pages {
		switch x.below(4) {
		case 0:
			sheets = append(sheets, sheet{})
		case 1:
			k := min(1+x.below(4), c.Pages-len(sheets))
			hd := x.header(max((k-1)*c.PageWords, c.PageWords/4)+1, k*c.PageWords)
			hd.Kind = max(hd.Kind, api.Record)
			if hd.Length > 32 {
				hd.Kind = max(hd.Kind, api.Refs)
			}
			sheets = append(sheets, large(hd))
			sheets = append(sheets, make([]sheet, k-1)...)
		default:
			sheets = append(sheets, x.filled(c.PageWords))
		}
	}
	h := build(c, x.below(2), sheets...)
	x.setFields(h)
	x.setPins(h)
	return h
}

// filled returns a SmallPage with irregular things.
func (x *numbers) filled(left int) sheet {
	s, most := small(), left/4
	for left > 0 && x.below(10) > 0 {
		hd := x.header(1, min(left, most))
		s.l = append(s.l, hd)
		left -= hd.Length + 1
	}
	return s
}

// setFields sets all fields of a good heap to irregular values.
func (x *numbers) setFields(h api.Heap) {
	objects := objectsOf(h)
	for _, y := range objects {
		for k := range int(y.length) {
			at := y.at + 1 + k
			h.Words[at] = x.value(h)
			if y.kind == 2 || y.kind == 1 && y.bits>>k%2 == 1 {
				h.Words[at] = x.ref(objects)
			}
		}
	}
}

// objectsOf returns the objects of a heap.
func objectsOf(h api.Heap) []thing {
	var l []thing
	for i := range h.Pages {
		things, _ := sheetOf(h, i)
		l = append(l, slices.DeleteFunc(things, func(y thing) bool { return y.kind == 0 })...)
	}
	return l
}

// ref returns 0 or the address of one of some objects.
func (x *numbers) ref(objects []thing) uint64 {
	if len(objects) == 0 || x.below(4) == 0 {
		return 0
	}
	return uint64(4096 + objects[x.below(len(objects))].at)
}

// value returns a word that may look like an address, a header or data.
func (x *numbers) value(h api.Heap) uint64 {
	switch x.below(5) {
	case 0:
		return uint64(4090 + x.below(len(h.Words)+12))
	case 1:
		return wordOf(x.header(1, h.Conf.PageWords/4+1))
	case 2:
		return h.Words[x.below(len(h.Words))]
	case 3:
		return uint64(x.below(20)) - 4
	}
	return 0
}

// setPins pins irregular pages of a heap, as many as there may be.
func (x *numbers) setPins(h api.Heap) {
	for i := range h.Pages {
		p := &h.Pages[i]
		if p.Kind == 2 || p.Kind == 1 && pinned(h) < len(h.Pages)/4 {
			p.Pins = x.below(3)
		}
	}
}

// spoil changes a heap in one irregular place.
func (x *numbers) spoil(h *api.Heap) {
	p := &h.Pages[x.below(len(h.Pages))]
	switch x.below(16) {
	case 0:
		h.Space = x.below(3)
	case 1:
		h.Bump = x.below(len(h.Pages)+3) - 1
	case 2:
		p.Space = x.below(2)
	case 3:
		p.Used = cmp.Or(p.Used+x.below(3)-1, x.below(2))
	case 4:
		p.Kind = x.below(4)
	case 5, 6:
		for i := range h.Pages {
			if h.Pages[i].Kind == 1 {
				h.Pages[i].Pins = x.below(3)
			}
		}
	case 7, 8, 9:
		x.spoilHeader(*h)
	default:
		h.Words[x.below(len(h.Words))] = x.value(*h)
	}
}

// spoilHeader makes one of some things that are beside each other on a page.
func (x *numbers) spoilHeader(h api.Heap) {
	i := x.below(len(h.Pages))
	l, ok := sheetOf(h, i)
	if !ok || len(l) == 0 {
		return
	}
	first := x.below(len(l))
	last := first + x.below(min(len(l)-first, 3))
	n := l[last].at + int(l[last].length) - l[first].at
	hd := []api.Header{filler(n), words(n)}[x.below(2)]
	h.Words[l[first].at] = wordOf(hd)
	if hd == filler(n) && x.below(4) > 0 {
		clear(h.Words[l[first].at+1:][:n])
	}
}

// copyOf returns a copy of a heap.
func copyOf(h api.Heap) api.Heap {
	h.Words = slices.Clone(h.Words)
	h.Pages = slices.Clone(h.Pages)
	return h
}

// snapshot returns a copy of a heap and of the memory behind its slices.
func snapshot(h api.Heap) api.Heap {
	h.Words = h.Words[:cap(h.Words)]
	h.Pages = h.Pages[:cap(h.Pages)]
	return copyOf(h)
}

// sameHeap reports whether two heaps are equal.
func sameHeap(a, b api.Heap) bool {
	return a.Conf == b.Conf && slices.Equal(a.Words, b.Words) && slices.Equal(a.Pages, b.Pages) && a.Space == b.Space && a.Bump == b.Bump
}
