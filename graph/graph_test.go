package graph

import (
	"math"
	"slices"
	"testing"

	"semispace/api"
	"semispace/header"
	"semispace/page"
)

// equal is the test's own comparison of graphs.
func equal(a, b Graph) bool {
	if !slices.Equal(a.Roots, b.Roots) || len(a.Nodes) != len(b.Nodes) {
		return false
	}
	for k, n := range a.Nodes {
		if n.Header != b.Nodes[k].Header || !slices.Equal(n.Fields, b.Nodes[k].Fields) {
			return false
		}
	}
	return true
}

// check compares Order and Of with what they have to be.
func check(t *testing.T, h api.Heap, roots, order []uint64, g Graph) {
	t.Helper()
	before, rootsBefore := snapshot(h), slices.Clone(roots[:cap(roots)])
	l, e := Order(h, roots)
	if !slices.Equal(l, order) || e != api.OK {
		t.Fatalf("Order of roots %v: %v, error %d, want %v", roots, l, e, order)
	}
	got, e := Of(h, roots)
	if !equal(got, g) || e != api.OK {
		t.Fatalf("Of of roots %v: %v, error %d, want %v", roots, got, e, g)
	}
	if !sameHeap(snapshot(h), before) || !slices.Equal(roots[:cap(roots)], rootsBefore) {
		t.Fatal("an argument has changed")
	}
}

// checkError checks that all calls on a heap report an error.
func checkError(t *testing.T, h api.Heap, roots []uint64, want api.Errno) {
	t.Helper()
	before := snapshot(h)
	if l, e := Order(h, roots); len(l) != 0 || e != want {
		t.Errorf("Order of roots %v: %v, error %d, want error %d", roots, l, e, want)
	}
	if g, e := Of(h, roots); !equal(g, Graph{}) || e != want {
		t.Errorf("Of of roots %v: %v, error %d, want error %d", roots, g, e, want)
	}
	for _, addr := range append([]uint64{0, 4096, 4098, 4112, 4223}, roots...) {
		if Reaches(h, roots, addr) {
			t.Errorf("Reaches of %d from roots %v, which have error %d", addr, roots, want)
		}
	}
	if !sameHeap(snapshot(h), before) {
		t.Error("an argument has changed")
	}
}

// 8.1 and 8.2: heaps of irregular cells, from irregular roots, in several
// places.
func TestIrregularHeaps(t *testing.T) {
	for seed := range 150 {
		x := numbers(seed + 1)
		cells := x.cells(1 + x.below(30))
		for range 3 {
			roots := x.refs(cells, x.below(6))
			h, at := lay(wide, cells, x.shuffled(len(cells)))
			if !page.Proper(h) {
				t.Fatal("a heap of the tests is not proper")
			}
			check(t, h, addressesOf(at, roots), addressesOf(at, modelOrder(cells, roots)), modelGraph(cells, roots))
		}
	}
}

// 8.1: written out.
func TestOrderWrittenOut(t *testing.T) {
	tree := []cell{ // at 4096, 4099, 4102, 4105, 4107, 4109 and, on the next page, 4112
		refs(2, 3), refs(4, 5), refs(6, 7), words(1), words(2), words(3), words(4),
	}
	down := []cell{ // each field refers to a lower address than the one before it
		words(1), words(2), words(3), refs(3, 2, 1),
	}
	mixed := []cell{ // only the fields 1 and 2 of the Record are pointers
		words(1), words(2), words(3), words(4), record(6, 4096, 4, 2, 4100), filler(4096),
	}
	for k, x := range []struct {
		cells       []cell
		roots, want []uint64
	}{
		{tree, nil, nil},
		{tree, []uint64{0, 0}, nil},
		{tree, []uint64{4096}, []uint64{4096, 4099, 4102, 4105, 4107, 4109, 4112}}, // not the objects below 4099 before 4102
		{tree, []uint64{4102}, []uint64{4102, 4109, 4112}},
		{tree, []uint64{4112, 4099}, []uint64{4112, 4099, 4105, 4107}},
		{tree, []uint64{4102, 4096}, []uint64{4102, 4096, 4109, 4112, 4099, 4105, 4107}}, // all roots first
		{tree, []uint64{0, 4107, 0, 4105, 4107, 4107, 0, 4105}, []uint64{4107, 4105}},
		{down, []uint64{4102}, []uint64{4102, 4100, 4098, 4096}}, // in the order of the fields, not of the addresses
		{down, []uint64{4098, 4102}, []uint64{4098, 4102, 4100, 4096}},
		{mixed, []uint64{4104}, []uint64{4104, 4102, 4098}},
	} {
		h, _ := laid(conf, x.cells...)
		if l, e := Order(h, x.roots); !slices.Equal(l, x.want) || e != api.OK {
			t.Errorf("case %d: %v, error %d, want %v", k, l, e, x.want)
		}
	}
}

// 8.2: written out, with sharing, cycles, null and data that look like
// addresses.
func TestOfWrittenOut(t *testing.T) {
	both := record(5, 5, 4098, 0)
	h, _ := laid(conf, // at 4096, 4098, 4102, 4105, 4108 and, on the next page, 4112
		words(4098), both, refs(3, 2), filler(1, 2), words(), refs(0, 5, 5, 1, 6, 2))
	for k, x := range []struct {
		roots []uint64
		want  Graph
	}{
		{nil, Graph{}},
		{[]uint64{0}, Graph{Roots: []int{-1}}},
		{[]uint64{4096, 0, 4096}, Graph{[]int{0, -1, 0}, []Node{{words(0).hd, []uint64{4098}}}}},
		{[]uint64{4108, 4098}, Graph{[]int{0, 1}, []Node{{words().hd, nil}, {both.hd, []uint64{1, 4098, 0}}}}},
		{[]uint64{4102}, Graph{[]int{0}, []Node{
			{refs(0, 0).hd, []uint64{1, 2}}, {both.hd, []uint64{3, 4098, 0}}, {words().hd, nil},
		}}},
		{[]uint64{0, 4112, 4102, 4112}, Graph{[]int{-1, 0, 1, 0}, []Node{
			{refs(0, 0, 0, 0, 0, 0).hd, []uint64{0, 3, 3, 4, 1, 5}}, {refs(0, 0).hd, []uint64{2, 5}},
			{words().hd, nil}, {words(0).hd, []uint64{4098}}, {both.hd, []uint64{3, 4098, 0}},
		}}},
	} {
		if g, e := Of(h, x.roots); !equal(g, x.want) || e != api.OK {
			t.Errorf("case %d: %v, error %d, want %v", k, g, e, x.want)
		}
	}
}

// great returns cells with as many fields as there may be: a chain of the
// largest Refs, and a Record whose last fields are pointers.
func great() []cell {
	a, b, c := refs(make([]uint64, 255)...), refs(make([]uint64, 255)...), record(1<<31|1<<30, make([]uint64, 32)...)
	a.fields[0], a.fields[254] = 2, 3
	b.fields[0], b.fields[254] = 2, 1
	c.fields[29], c.fields[30], c.fields[31] = 4096, 3, 4
	return []cell{a, b, c, words(make([]uint64, 255)...)}
}

// 8.1 and 8.2: the greatest objects.
func TestGreatObjects(t *testing.T) {
	cells := great()
	for seed := range 5 {
		x := numbers(seed + 1)
		h, at := lay(wide, cells, x.shuffled(4))
		for _, roots := range [][]uint64{{1}, {2}, {3, 1}, {4, 0, 4}} {
			check(t, h, addressesOf(at, roots), addressesOf(at, modelOrder(cells, roots)), modelGraph(cells, roots))
		}
	}
}

// 8.1 and 8.2: a heap that is full to its last word, from both ends.
func TestFullHeaps(t *testing.T) {
	cells := slices.Repeat([]cell{words()}, 4096)
	h, at := laid(wide, cells...)
	backwards := slices.Clone(at)
	slices.Reverse(backwards)
	for _, roots := range [][]uint64{at, backwards, append(backwards, at...)} {
		g := Graph{Nodes: slices.Repeat([]Node{{Header: words().hd}}, 4096)}
		for k := range roots {
			g.Roots = append(g.Roots, min(k, 8191-k))
		}
		check(t, h, roots, roots[:4096], g)
	}
	if !Reaches(h, at[4095:], 8191) || Reaches(h, at[4095:], 8190) {
		t.Error("the last word of a heap is an object that refers to nothing")
	}
	var want Graph
	cells = nil
	for k := range 2048 { // each object refers to the one before it
		cells = append(cells, refs(uint64(k)))
		want.Nodes = append(want.Nodes, Node{refs(0).hd, []uint64{uint64(k+2) % 2049}})
	}
	h, at = laid(wide, cells...)
	order := slices.Clone(at)
	slices.Reverse(order)
	want.Roots = []int{0}
	check(t, h, order[:1:1], order, want)
}

// broken returns a heap of conf whose page 0 has a Record that points to a
// word at 4105, and two fillers, and whose page 1 has a large object, which
// ends in page 2.
func broken(ref uint64) api.Heap {
	h, _ := laid(conf, record(2, 4105, 0), filler(), words(1, 2), filler(13, 29), words(5), refs(make([]uint64, 16)...))
	h.Words[2] = ref
	return h
}

// noObjects are what is no address of an object in such a heap.
var noObjects = []uint64{
	1, 2, 4095, // in front of the arena
	4097, 4101, 4109, 4111, 4113, 4129, // fields
	4099, 4103, // fillers
	4104, 4105, // words of a filler: headers, if they were not in it
	4108, 4110, // behind Used of page 0
	4128, 4144, 4223, // a TailPage, and FreePages
	4224, 4225, 1<<32 + 4096, 1<<63 + 4096, 1 << 63, math.MaxUint64, // behind the arena
}

// 8.1: a root or a pointer field that is neither 0 nor the address of an
// object.
func TestReferencesToNoObject(t *testing.T) {
	objects := []uint64{4096, 4100, 4106, 4112}
	for _, ref := range append(noObjects, objects...) {
		isObject := slices.Contains(objects, ref)
		want := api.ErrCorrupt
		if isObject {
			want = api.OK
		}
		for _, roots := range [][]uint64{{ref}, {0, 4100, ref}, {ref, 4106}} {
			if !isObject {
				checkError(t, broken(0), roots, api.ErrCorrupt)
			} else if _, e := Order(broken(0), roots); e != want {
				t.Errorf("Order of roots %v: error %d", roots, e)
			}
		}
		// From 4112, its last field and the Record at 4096 lead there.
		h := broken(ref)
		h.Words[32] = 4096
		for _, roots := range [][]uint64{{4096}, {4100, 4096}, {4112}, {0, 4106, 4112, 0}} {
			if _, e := Of(h, roots); e != want {
				t.Errorf("Of of roots %v, and %d in a field: error %d, want %d", roots, ref, e, want)
			}
			if !isObject {
				checkError(t, h, roots, api.ErrCorrupt)
			}
		}
		// What is not reachable may refer to anything.
		h.Words[32] = 0
		check(t, h, []uint64{4106, 4112}, []uint64{4106, 4112}, Graph{[]int{0, 1}, []Node{
			{words(0).hd, []uint64{5}}, {header16, make([]uint64, 16)},
		}})
	}
}

var header16 = api.Header{Kind: api.Refs, Length: 16}

// 8.1: data fields may be anything.
func TestDataAreNoReferences(t *testing.T) {
	for _, v := range append(noObjects, 0, 4096, 4100) {
		h := broken(4100)
		h.Words[1], h.Words[5] = v, v
		check(t, h, []uint64{4096}, []uint64{4096, 4100}, Graph{[]int{0}, []Node{
			{record(2, 0, 0).hd, []uint64{v, 2}}, {words(0, 0).hd, []uint64{v, 2}},
		}})
	}
}

// changes are what makes a heap of broken improper.
var changes = []func(h *api.Heap){
	func(h *api.Heap) { *h = api.Heap{} },
	func(h *api.Heap) { h.Conf.PageWords = 20 },
	func(h *api.Heap) { h.Words = h.Words[:127] },
	func(h *api.Heap) { h.Pages = h.Pages[:7] },
	func(h *api.Heap) { h.Space = 2 },
	func(h *api.Heap) { h.Bump = 1 },
	func(h *api.Heap) { h.Pages[0].Used = 17 },
	func(h *api.Heap) { h.Pages[2] = api.Page{} },
	func(h *api.Heap) { h.Pages[7].Pins = 1 },
}

// 8.1 to 8.3: the errors, alone and several at once, in their order.
func TestErrors(t *testing.T) {
	someRoots := [][]uint64{nil, {0}, {4096}, {4106, 4096}, {4095}, {0, 4097, 4096}, {math.MaxUint64}}
	for _, change := range changes {
		for _, w := range []uint64{0, 65} { // a word that is no header, or the right one
			h := broken(4097)
			h.Words[10] = w
			change(&h)
			for _, roots := range someRoots {
				checkError(t, h, roots, api.ErrArg)
			}
		}
	}
	// There is an error on a page from which nothing is reachable.
	for _, at := range []int{0, 3, 10, 16} {
		for _, ref := range []uint64{0, 4100, 4097} {
			h := broken(ref)
			h.Words[at] = 16386 // a forwarding word
			for _, roots := range someRoots {
				checkError(t, h, roots, api.ErrCorrupt)
			}
		}
	}
	h := broken(0)
	h.Pages[0].Used++ // the word behind the last object is 0
	for _, roots := range someRoots {
		checkError(t, h, roots, api.ErrCorrupt)
	}
}

// 8.3: graphs do not depend on addresses.
func TestSameInOtherPlaces(t *testing.T) {
	for seed := range 60 {
		x := numbers(seed + 100)
		cells := x.cells(2 + x.below(12))
		roots := x.refs(cells, 3)
		h, at := lay(wide, cells, ascending(len(cells)))
		g, e := Of(h, addressesOf(at, roots))
		for range 4 {
			// What is not reachable does not matter, either.
			other := append(slices.Clone(cells), x.cells(1+x.below(8))...)
			h, at := lay(wide, other, x.shuffled(len(other)))
			moved, e2 := Of(h, addressesOf(at, roots))
			if e != api.OK || e2 != api.OK || !Same(g, moved) || !Same(moved, g) {
				t.Fatalf("%v and %v are not the same, or error %d or %d", g, moved, e, e2)
			}
		}
	}
}

// 8.3: each change of a heap that can be seen from the roots.
func TestSameAfterChanges(t *testing.T) {
	cells := []cell{refs(2, 3, 0), record(2, 7, 1), words(5, 6), refs(3, 3, 0)}
	roots := []uint64{1, 0, 2}
	h, at := laid(conf, cells...)
	g, _ := Of(h, addressesOf(at, roots))
	for k, change := range []func(cells []cell){
		func(l []cell) { l[0] = refs(3, 2, 0) },
		func(l []cell) { l[0] = refs(2, 2, 0) },
		func(l []cell) { l[0] = refs(2, 3, 3) },
		func(l []cell) { l[0] = refs(2, 3) },
		func(l []cell) { l[0] = refs(2, 3, 0, 0) },
		func(l []cell) { l[0] = record(7, 2, 3, 0) },
		func(l []cell) { l[1] = record(2, 8, 1) },
		func(l []cell) { l[1] = record(2, 7, 2) },
		func(l []cell) { l[1] = record(2, 7, 0) },
		func(l []cell) { l[1] = words(7, 1) },
		func(l []cell) { l[2] = words(6, 5) },
		func(l []cell) { l[2] = words(5, 6, 0) },
		func(l []cell) { l[2] = record(0, 5, 6) },
		func(l []cell) { l[0] = refs(2, 4, 0) },
	} {
		changed := slices.Clone(cells)
		change(changed)
		h, at := laid(conf, changed...)
		other, e := Of(h, addressesOf(at, roots))
		if e != api.OK || Same(g, other) || Same(other, g) {
			t.Errorf("change %d: %v and %v are the same, or error %d", k, g, other, e)
		}
	}
	for _, r := range [][]uint64{nil, {1, 0}, {0, 1, 2}, {1, 0, 3}, {1, 0, 1}, {1, 0, 2, 0}, {1, 0, 2, 2}, {1, 2}} {
		if other, e := Of(h, addressesOf(at, r)); e != api.OK || Same(g, other) || Same(other, g) {
			t.Errorf("roots %v: %v and %v are the same, or error %d", r, g, other, e)
		}
	}
}

// 8.3: equal objects are not one shared object.
func TestSharing(t *testing.T) {
	once, at := laid(conf, refs(2, 2), words(7))
	g, _ := Of(once, at[:1])
	twice, at2 := laid(conf, refs(2, 3), words(7), words(7))
	g2, _ := Of(twice, at2[:1])
	if Same(g, g2) || Words(g) != 5 || Words(g2) != 7 {
		t.Errorf("%v and %v", g, g2)
	}
}

// strange are graphs that are all different, and that Of does not return.
func strange() []Graph {
	hd := api.Header{Kind: 9, Length: math.MaxInt, Map: 5}
	return []Graph{
		{},
		{Roots: []int{0}}, {Roots: []int{-1}}, {Roots: []int{math.MinInt}}, {Roots: []int{0, 0}},
		{Nodes: []Node{{}}}, {Nodes: []Node{{}, {}}}, {Nodes: []Node{{Header: hd}}}, {Nodes: []Node{{}, {Header: hd}}},
		{Nodes: []Node{{Header: hd}, {}}}, {Nodes: []Node{{hd, []uint64{0}}}}, {Nodes: []Node{{hd, []uint64{0}}, {}}},
		{Nodes: []Node{{Fields: []uint64{0}}}}, {Nodes: []Node{{Fields: []uint64{0, 0}}}}, {Nodes: []Node{{Fields: []uint64{math.MaxUint64}}}},
		{Nodes: []Node{{Fields: []uint64{0}}, {}}}, {Nodes: []Node{{}, {Fields: []uint64{0}}}},
		{Nodes: []Node{{Header: api.Header{Kind: 9}}}}, {Nodes: []Node{{Header: api.Header{Length: 9}}}}, {Nodes: []Node{{Header: api.Header{Map: 9}}}},
		{[]int{0}, []Node{{}}},
	}
}

// 8.3: all graphs, in pairs.
func TestSame(t *testing.T) {
	for i, a := range strange() {
		for j, b := range strange() {
			if Same(a, b) != (i == j) {
				t.Errorf("graphs %d and %d: %t", i, j, i != j)
			}
		}
	}
	// R2: nil and empty slices are equivalent.
	none := Graph{[]int{}, []Node{}}
	if !Same(none, Graph{}) || !Same(Graph{}, none) || !Same(Graph{Nodes: []Node{{Fields: []uint64{}}}}, Graph{Nodes: []Node{{}}}) {
		t.Error("nil and empty slices differ")
	}
}

// 8.3: what header.Size says of the nodes.
func TestWords(t *testing.T) {
	node := func(kind, length int, m uint32) Node {
		return Node{api.Header{Kind: kind, Length: length, Map: m}, make([]uint64, 3)}
	}
	for k, x := range []struct {
		nodes []Node
		want  int
	}{
		{nil, 0},
		{[]Node{node(3, 0, 0)}, 1},
		{[]Node{node(3, 255, 0), node(2, 255, 0), node(1, 32, math.MaxUint32)}, 545},
		{[]Node{node(0, 4, 0), node(1, 2, 3)}, 8}, // a Filler has a Size, too
		// Headers that are not valid have Size 0.
		{[]Node{node(3, 256, 0), node(3, -1, 0), node(1, 33, 0), node(1, 2, 4), node(2, 1, 1), node(4, 1, 0), node(-1, 1, 0)}, 0},
		{[]Node{node(3, math.MaxInt, 0), node(3, 1, 0), node(2, math.MinInt, 0), node(3, 2, 0)}, 5},
		{slices.Repeat([]Node{node(3, 255, 0)}, 10000), 2560000},
	} {
		if got := Words(Graph{Roots: []int{0, 5}, Nodes: x.nodes}); got != x.want {
			t.Errorf("case %d: %d, want %d", k, got, x.want)
		}
	}
	for seed := range 20 {
		x := numbers(seed + 300)
		cells := x.cells(20)
		h, at := lay(wide, cells, x.shuffled(20))
		roots := x.refs(cells, 4)
		g, _ := Of(h, addressesOf(at, roots))
		want := 0
		for _, ref := range modelOrder(cells, roots) {
			want += header.Size(cells[ref-1].hd)
		}
		if got := Words(g); got != want {
			t.Errorf("Words of %v: %d, want %d", g, got, want)
		}
	}
}

// 8.3: at each address of a heap, and others.
func TestReaches(t *testing.T) {
	for seed := range 8 {
		x := numbers(seed + 500)
		cells := x.cells(25)
		h, at := lay(wide, cells, x.shuffled(25))
		roots := x.refs(cells, 2)
		want := addressesOf(at, modelOrder(cells, roots))
		probes := append([]uint64{0, 1, 4095, 8192, 8193, 1<<32 + at[0], 1<<63 + at[0], math.MaxUint64}, at...)
		for addr := uint64(4096); addr < 8192; addr += 3 {
			probes = append(probes, addr)
		}
		for _, addr := range probes {
			if got := Reaches(h, addressesOf(at, roots), addr); got != slices.Contains(want, addr) {
				t.Fatalf("Reaches of %d from %v: %t", addr, roots, got)
			}
		}
	}
}

// 8.3: written out.
func TestReachesWrittenOut(t *testing.T) {
	h, _ := laid(conf, refs(2, 0), refs(3, 1), words(4106), filler(), refs(1)) // at 4096, 4099, 4102, 4104 and 4105
	for _, x := range []struct {
		roots []uint64
		addr  uint64
		want  bool
	}{
		{[]uint64{4096}, 4096, true}, {[]uint64{4096}, 4099, true}, {[]uint64{4096}, 4102, true}, {[]uint64{4096}, 4105, false},
		{[]uint64{4102}, 4102, true}, {[]uint64{4102}, 4096, false}, {[]uint64{4102, 0, 4105}, 4099, true},
		{[]uint64{4096}, 4097, false}, {[]uint64{4096}, 4104, false}, {[]uint64{0}, 0, false}, {nil, 4096, false}, {nil, 0, false},
		{[]uint64{4096, 4097}, 4096, false}, {[]uint64{4096, 4104}, 4096, false}, // Order has an error
	} {
		if got := Reaches(h, x.roots, x.addr); got != x.want {
			t.Errorf("Reaches of %d from %v: %t", x.addr, x.roots, got)
		}
	}
}

// R4 and LANGUAGE.md 7: nothing that is done to a result can be seen in an
// argument, in another result or in another part of it.
func TestResultsAreNewMemory(t *testing.T) {
	cells := []cell{refs(2, 3), record(2, 7, 1), words(5, 6)}
	h, at := laid(conf, cells...)
	roots := append(make([]uint64, 0, 5), at[0], 0, at[2])
	before := snapshot(h)
	l, _ := Order(h, roots)
	clear(l[:cap(l)])
	g, _ := Of(h, roots)
	want := modelGraph(cells, []uint64{1, 0, 3})
	for k := range g.Nodes {
		f := g.Nodes[k].Fields
		clear(f[:cap(f)])
		clear(want.Nodes[k].Fields)
		if !equal(g, want) {
			t.Fatalf("nodes share memory: %v", g)
		}
	}
	clear(g.Roots[:cap(g.Roots)])
	clear(g.Nodes[:cap(g.Nodes)])
	if !sameHeap(snapshot(h), before) || !slices.Equal(roots, []uint64{at[0], 0, at[2]}) {
		t.Fatal("an argument has changed")
	}
	check(t, h, roots, []uint64{at[0], at[2], at[1]}, modelGraph(cells, []uint64{1, 0, 3}))
}

func TestExamples(t *testing.T) {
	h, _ := page.New(conf)
	if g, e := Of(h, []uint64{0, 0}); !slices.Equal(g.Roots, []int{-1, -1}) || len(g.Nodes) != 0 || e != api.OK {
		t.Errorf("%v, error %d", g, e)
	}
	h, at := laid(conf, refs(1))
	if g, e := Of(h, at); !equal(g, Graph{[]int{0}, []Node{{refs(0).hd, []uint64{1}}}}) || e != api.OK {
		t.Errorf("%v, error %d", g, e)
	}
}
