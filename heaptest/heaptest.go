// Package heaptest describes heaps for the tests of other packages: as scenes,
// in which references do not depend on addresses. It uses none of the functions
// that these tests examine.
package heaptest

import (
	"slices"

	"semispace/api"
	"semispace/graph"
)

// Conf has few small pages, and Wide has many great ones.
var (
	Conf = api.Conf{PageWords: 16, Pages: 8}
	Wide = api.Conf{PageWords: 64, Pages: 64}
)

// Thing is an object or a filler on a page, or from its beginning on if it is
// large. A pointer field of it is 0, or the number of another thing plus 1.
type Thing struct {
	Page int
	graph.Node
}

// Words is a thing without pointer fields.
func Words(page int, l ...uint64) Thing {
	return Thing{page, graph.Node{Header: api.Header{Kind: api.Words, Length: len(l)}, Fields: l}}
}

// Refs is a thing with only pointer fields.
func Refs(page int, l ...uint64) Thing {
	return Thing{page, graph.Node{Header: api.Header{Kind: api.Refs, Length: len(l)}, Fields: l}}
}

// Record is a thing with the pointer fields of a map.
func Record(page int, m uint32, l ...uint64) Thing {
	return Thing{page, graph.Node{Header: api.Header{Kind: api.Record, Length: len(l), Map: m}, Fields: l}}
}

// Filler is a filler with n words after its header.
func Filler(page, n int) Thing {
	return Thing{page, graph.Node{Header: api.Header{Length: n}, Fields: make([]uint64, n)}}
}

// IsFiller reports whether a thing is no object.
func (x Thing) IsFiller() bool { return x.Header.Kind == api.Filler }

// Size is the number of words of a thing.
func (x Thing) Size() int { return len(x.Fields) + 1 }

// Pointers are the numbers of the pointer fields of a thing.
func (x Thing) Pointers() []int {
	var l []int
	for i := range x.Fields {
		if x.Header.Kind == api.Refs || x.Header.Kind == api.Record && x.Header.Map&(1<<i) != 0 {
			l = append(l, i)
		}
	}
	return l
}

// Written returns the words of a thing, with the values that references have.
func (x Thing) Written(values []uint64) []uint64 {
	hd := x.Header
	l := append([]uint64{1 + uint64(hd.Kind)<<2 + uint64(hd.Length)<<4 + uint64(hd.Map)<<16}, x.Fields...)
	for _, i := range x.Pointers() {
		l[1+i] = ValueOf(values, x.Fields[i])
	}
	return l
}

// ValueOf returns the value of a reference to a thing, or 0.
func ValueOf(values []uint64, ref uint64) uint64 {
	if ref == 0 {
		return 0
	}
	return values[ref-1]
}

// ValuesOf is ValueOf for all references of a list.
func ValuesOf(values, refs []uint64) []uint64 {
	l := make([]uint64, len(refs))
	for k, ref := range refs {
		l[k] = ValueOf(values, ref)
	}
	return l
}

// SameHeap reports whether two heaps are equal.
func SameHeap(g, h api.Heap) bool {
	return g.Conf == h.Conf && g.Space == h.Space && g.Bump == h.Bump &&
		slices.Equal(g.Words, h.Words) && slices.Equal(g.Pages, h.Pages)
}

// Roomy returns a copy of a list with room for more, in which marks are that
// must stay.
func Roomy[T any](l []T, mark T) []T { return append(slices.Clone(l), mark, mark)[:len(l)] }

// Whole returns a copy of a list with what is behind it.
func Whole[T any](l []T) []T { return slices.Clone(l[:cap(l)]) }

// RoomyHeap is Roomy for the slices of a heap.
func RoomyHeap(h api.Heap) api.Heap {
	h.Words, h.Pages = Roomy(h.Words, 77), Roomy(h.Pages, api.Page{Kind: 77})
	return h
}

// WholeHeap is Whole for the slices of a heap.
func WholeHeap(h api.Heap) api.Heap {
	h.Words, h.Pages = Whole(h.Words), Whole(h.Pages)
	return h
}

// WithPins returns a heap in which the Pins of all pages are the sums of the
// Counts of pins, as far as a Ref is on a page that can have them.
func WithPins(h api.Heap, pins ...api.Pin) api.Heap {
	h.Words, h.Pages = slices.Clone(h.Words), slices.Clone(h.Pages)
	for i := range h.Pages {
		p := &h.Pages[i]
		p.Pins = 0
		if p.Kind != api.SmallPage && p.Kind != api.LargePage {
			continue
		}
		from := uint64(4096 + i*h.Conf.PageWords)
		for _, x := range pins {
			if x.Ref >= from && x.Ref < from+uint64(h.Conf.PageWords) {
				p.Pins += x.Count
			}
		}
	}
	return h
}
