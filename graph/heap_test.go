package graph

import (
	"math/bits"
	"slices"

	"semispace/api"
	"semispace/page"
)

// cell is an object or a filler of the tests. Its pointer fields are 0 or the
// number of another cell plus 1, so that it does not depend on where it lies.
type cell struct {
	hd     api.Header
	fields []uint64
}

func words(l ...uint64) cell {
	return cell{api.Header{Kind: api.Words, Length: len(l)}, l}
}

func refs(l ...uint64) cell {
	return cell{api.Header{Kind: api.Refs, Length: len(l)}, l}
}

func record(m uint32, l ...uint64) cell {
	return cell{api.Header{Kind: api.Record, Length: len(l), Map: m}, l}
}

func filler(l ...uint64) cell {
	return cell{api.Header{Kind: api.Filler, Length: len(l)}, l}
}

// word is the word of a header, in numbers instead of bits.
func word(hd api.Header) uint64 {
	return 1 + 4*uint64(hd.Kind) + 16*uint64(hd.Length) + 65536*uint64(hd.Map)
}

// pointers returns the numbers of the pointer fields of a cell.
func (x cell) pointers() []int {
	var l []int
	for i := range x.fields {
		if x.hd.Kind == api.Refs || x.hd.Kind == api.Record && bits.RotateLeft32(x.hd.Map, -i)%2 == 1 {
			l = append(l, i)
		}
	}
	return l
}

// conf has few small pages, and wide has many great ones.
var (
	conf = api.Conf{PageWords: 16, Pages: 8}
	wide = api.Conf{PageWords: 64, Pages: 64}
)

// empty returns a heap without objects. The memory behind its slices contains
// marks, which must stay.
func empty(c api.Conf) api.Heap {
	n := c.PageWords * c.Pages
	h := api.Heap{Conf: c, Words: make([]uint64, n+2), Pages: make([]api.Page, c.Pages+2), Bump: -1}
	h.Words[n], h.Words[n+1] = 77, 78
	h.Pages[c.Pages].Kind, h.Pages[c.Pages+1].Kind = 77, 78
	h.Words, h.Pages = h.Words[:n], h.Pages[:c.Pages]
	return h
}

// room finds a place for so many words: behind what is on a SmallPage, or
// pages of their own if they are too many for one. It returns an index.
func room(h api.Heap, n int) int {
	size := h.Conf.PageWords
	if n > size {
		i := page.First(h.Pages, (n+size-1)/size)
		h.Pages[i] = api.Page{Kind: api.LargePage, Used: n}
		for j := 1; j*size < n; j++ {
			h.Pages[i+j].Kind = api.TailPage
		}
		return i * size
	}
	i := slices.IndexFunc(h.Pages, func(p api.Page) bool {
		return p.Kind == api.FreePage || p.Kind == api.SmallPage && p.Used+n <= size
	})
	h.Pages[i].Kind = api.SmallPage
	h.Pages[i].Used += n
	return i*size + h.Pages[i].Used - n
}

// lay returns a heap with these cells, which it places in this order, and the
// address of each.
func lay(c api.Conf, cells []cell, order []int) (api.Heap, []uint64) {
	h, at := empty(c), make([]uint64, len(cells))
	for _, k := range order {
		at[k] = 4096 + uint64(room(h, len(cells[k].fields)+1))
	}
	for k, x := range cells {
		l := h.Words[at[k]-4096:][:len(x.fields)+1]
		l[0] = word(x.hd)
		copy(l[1:], x.fields)
		for _, i := range x.pointers() {
			l[1+i] = address(at, x.fields[i])
		}
	}
	return h, at
}

// laid is lay in the order of the cells.
func laid(c api.Conf, cells ...cell) (api.Heap, []uint64) {
	return lay(c, cells, ascending(len(cells)))
}

// ascending returns the numbers from 0 to n-1.
func ascending(n int) []int {
	l := make([]int, n)
	for i := range l {
		l[i] = i
	}
	return l
}

// address returns the address of the cell with this number plus 1, or 0.
func address(at []uint64, ref uint64) uint64 {
	if ref == 0 {
		return 0
	}
	return at[ref-1]
}

// addressesOf is address for all of a list.
func addressesOf(at, refs []uint64) []uint64 {
	var l []uint64
	for _, ref := range refs {
		l = append(l, address(at, ref))
	}
	return l
}

// modelOrder is the chapter's order, for cells instead of addresses: their
// numbers plus 1.
func modelOrder(cells []cell, roots []uint64) []uint64 {
	var l []uint64
	for _, ref := range roots {
		if ref != 0 && !slices.Contains(l, ref) {
			l = append(l, ref)
		}
	}
	for k := 0; k < len(l); k++ {
		x := cells[l[k]-1]
		for _, i := range x.pointers() {
			if x.fields[i] != 0 && !slices.Contains(l, x.fields[i]) {
				l = append(l, x.fields[i])
			}
		}
	}
	return l
}

// modelGraph is the chapter's graph of cells.
func modelGraph(cells []cell, roots []uint64) Graph {
	order := modelOrder(cells, roots)
	var g Graph
	for _, ref := range roots {
		g.Roots = append(g.Roots, slices.Index(order, ref)) // -1 for 0, too
	}
	for _, ref := range order {
		x := cells[ref-1]
		n := Node{x.hd, slices.Clone(x.fields)}
		for _, i := range x.pointers() {
			n.Fields[i] = uint64(slices.Index(order, x.fields[i]) + 1)
		}
		g.Nodes = append(g.Nodes, n)
	}
	return g
}

// numbers is a sequence of numbers that look irregular, the same ones in each
// run.
type numbers uint64

// below returns a number from 0 to n-1.
func (x *numbers) below(n int) int {
	*x ^= *x << 13
	*x ^= *x >> 7
	*x ^= *x << 17
	return int(uint64(*x) % uint64(n))
}

// shuffled returns the numbers from 0 to n-1 in an irregular order.
func (x *numbers) shuffled(n int) []int {
	l := ascending(n)
	for i := range l {
		j := i + x.below(n-i)
		l[i], l[j] = l[j], l[i]
	}
	return l
}

// cells returns n irregular cells. Their data fields often look like
// addresses, and no pointer field refers to a filler.
func (x *numbers) cells(n int) []cell {
	l := make([]cell, n)
	for k := range l {
		length := x.below(5)
		if x.below(8) == 0 {
			length = x.below(80)
		}
		hd := api.Header{Kind: x.below(4), Length: length}
		if hd.Kind == api.Record {
			hd.Length = min(length, 32)
			hd.Map = uint32(x.below(1 << hd.Length))
		}
		l[k] = cell{hd, make([]uint64, hd.Length)}
	}
	for _, y := range l {
		for i := range y.fields {
			y.fields[i] = 4096 + uint64(x.below(4096))
		}
		for _, i := range y.pointers() {
			y.fields[i] = x.ref(l)
		}
	}
	return l
}

// ref returns 0, or the number plus 1 of an object among some cells.
func (x *numbers) ref(l []cell) uint64 {
	k := x.below(len(l))
	if x.below(3) == 0 || l[k].hd.Kind == api.Filler {
		return 0
	}
	return uint64(k + 1)
}

// refs returns n references to objects among some cells.
func (x *numbers) refs(l []cell, n int) []uint64 {
	var r []uint64
	for range n {
		r = append(r, x.ref(l))
	}
	return r
}

// snapshot returns a copy of a heap and of the memory behind its slices.
func snapshot(h api.Heap) api.Heap {
	h.Words = slices.Clone(h.Words[:cap(h.Words)])
	h.Pages = slices.Clone(h.Pages[:cap(h.Pages)])
	return h
}

// sameHeap reports whether two heaps are equal.
func sameHeap(a, b api.Heap) bool {
	return a.Conf == b.Conf && slices.Equal(a.Words, b.Words) && slices.Equal(a.Pages, b.Pages) && a.Space == b.Space && a.Bump == b.Bump
}
