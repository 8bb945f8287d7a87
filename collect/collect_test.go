package collect_test

import (
	"math"
	"slices"
	"testing"

	"semispace/alloc"
	"semispace/api"
	"semispace/audit"
	"semispace/collect"
	"semispace/graph"
	"semispace/heaptest"
	"semispace/object"
	"semispace/page"
	"semispace/walk"
)

// result is what Collect returns.
type result struct {
	heap         api.Heap
	strong, weak []uint64
	report       api.Report
	e            api.Errno
}

// equal checks a result.
func equal(t *testing.T, got, want result) {
	t.Helper()
	if got.e != want.e || got.report != want.report || !heaptest.SameHeap(got.heap, want.heap) ||
		!slices.Equal(got.strong, want.strong) || !slices.Equal(got.weak, want.weak) {
		t.Fatalf("the result is\n%v, want\n%v", got, want)
	}
}

// collected is Collect. It checks that the call leaves its arguments as they
// are, and that the results are zero together with an error.
func collected(t *testing.T, h api.Heap, strong, weak []uint64) result {
	t.Helper()
	h, roots, same := heaptest.Guarded(h, strong, weak)
	var got result
	got.heap, got.strong, got.weak, got.report, got.e = collect.Collect(h, roots[0], roots[1])
	if !same() {
		t.Fatal("the arguments have changed")
	}
	if got.e != api.OK {
		equal(t, got, result{e: got.e})
	}
	return got
}

// fails checks an error of Collect.
func fails(t *testing.T, h api.Heap, strong, weak []uint64, want api.Errno) {
	t.Helper()
	if got := collected(t, h, strong, weak); got.e != want {
		t.Fatalf("roots %v and %v: error %d, want %d", strong, weak, got.e, want)
	}
}

// run collects in the heap of a scene and checks the result against the model
// and the purpose. The roots are references to things.
func run(t *testing.T, s scene, strong, weak []uint64) (result, outcome) {
	t.Helper()
	return runIn(t, s.Heap(), s, strong, weak)
}

// runIn is run in a heap that may have another Bump.
func runIn(t *testing.T, h api.Heap, s scene, strong, weak []uint64) (result, outcome) {
	t.Helper()
	if f := audit.Check(h); f != (audit.Finding{}) {
		t.Fatalf("a heap of the tests has the finding %v", f)
	}
	at := s.Addresses()
	got := collected(t, h, heaptest.ValuesOf(at, strong), heaptest.ValuesOf(at, weak))
	o, ok := leave(s, strong)
	if !ok {
		equal(t, got, result{e: api.ErrMemory})
		return got, o
	}
	for _, ref := range weak {
		if ref != 0 && o.ref[ref-1] == 0 {
			o.report.Cleared++
		}
	}
	to := o.Addresses()
	want := result{heap: o.heap(), report: o.report}
	want.strong = heaptest.ValuesOf(to, heaptest.ValuesOf(o.ref, strong))
	want.weak = heaptest.ValuesOf(to, heaptest.ValuesOf(o.ref, weak))
	equal(t, got, want)
	keepsItsPurpose(t, h, heaptest.ValuesOf(at, strong), heaptest.ValuesOf(at, weak), got)
	return got, o
}

// keepsItsPurpose checks 12.3.
func keepsItsPurpose(t *testing.T, h api.Heap, strong, weak []uint64, got result) {
	t.Helper()
	before, _ := graph.Of(h, strong)
	after, e := graph.Of(got.heap, got.strong)
	if !graph.Same(before, after) || e != api.OK {
		t.Fatalf("the graph is %v, before %v, error %d", after, before, e)
	}
	if f := audit.Check(got.heap); f != (audit.Finding{}) {
		t.Fatalf("the heap has the finding %v", f)
	}
	from, _ := graph.Order(h, strong)
	to, _ := graph.Order(got.heap, got.strong)
	objects, _ := walk.Objects(got.heap)
	if reachable := slices.Sorted(slices.Values(to)); !slices.Equal(reachable, objects) {
		t.Fatalf("the objects are %v, reachable are %v", objects, reachable)
	}
	for k, addr := range from {
		i, _, _ := page.Of(h.Conf, addr)
		if p := h.Pages[i]; (p.Kind == api.LargePage || p.Pins > 0) != (to[k] == addr) {
			t.Fatalf("the object at %d is now at %d", addr, to[k])
		}
	}
	for k, ref := range weak {
		want := uint64(0)
		if n := slices.Index(from, ref); n >= 0 {
			want = to[n]
		}
		if got.weak[k] != want {
			t.Fatalf("the weak root %d is now %d, want %d", ref, got.weak[k], want)
		}
	}
	if got.report.Steps > len(h.Words) {
		t.Fatalf("%d steps", got.report.Steps)
	}
}

func TestExamples(t *testing.T) {
	h, _ := page.New(heaptest.Conf)
	want := h
	want.Space = 1
	equal(t, collected(t, h, nil, nil), result{heap: want})
	one, _, _ := alloc.New(h, api.Header{Kind: api.Words, Length: 3})
	equal(t, collected(t, one, nil, nil), result{heap: want, report: api.Report{Freed: 1}})
}

// with returns an empty heap of conf after a collection, with these words from
// these numbers on and these pages.
func with(words map[int][]uint64, pages map[int]api.Page, bump int) api.Heap {
	h, _ := page.New(heaptest.Conf)
	for i, l := range words {
		copy(h.Words[i:], l)
	}
	for i, p := range pages {
		h.Pages[i] = p
	}
	h.Space, h.Bump = 1, bump
	return h
}

// 12.1: whole collections, written out.
func TestCollect(t *testing.T) {
	h := heaptest.Ordinary(0).Heap()
	equal(t, collected(t, h, []uint64{4150, 0, 4106}, []uint64{4096, 4106, 0, 4102, 4147, 4112, 4192, 4150, 4102}), result{
		with(map[int][]uint64{
			48: {131109, 4096, 4160, 45, 5, 1<<64 - 1, 25, 4147},
			64: {57, 0, 4144, 0},
		}, map[int]api.Page{3: {Kind: 1, Space: 1, Used: 8, Pins: 4}, 4: {Kind: 1, Space: 1, Used: 4}}, 4),
		[]uint64{4150, 0, 4160},
		[]uint64{0, 4160, 0, 0, 4147, 0, 0, 4150, 0},
		api.Report{Copied: 1, Kept: 3, Freed: 5, Cleared: 5, Steps: 9},
		api.OK,
	})
	// On the promoted page, the objects before and after the root are filled.
	equal(t, collected(t, h, []uint64{4147}, []uint64{4144, 4150}), result{
		with(map[int][]uint64{48: {33, 0, 0, 45, 5, 1<<64 - 1, 17, 0}},
			map[int]api.Page{3: {Kind: 1, Space: 1, Used: 8, Pins: 4}}, -1),
		[]uint64{4147},
		[]uint64{0, 0},
		api.Report{Kept: 1, Filled: 2, Freed: 5, Cleared: 2, Steps: 1},
		api.OK,
	})
	// The large objects on pages 1 and 6 stay there, with what they refer to.
	equal(t, collected(t, h, []uint64{4112, 4192}, nil), result{
		with(map[int][]uint64{
			16: append(append([]uint64{313, 4160, 4112}, make([]uint64, 16)...), 4147),
			48: {33, 0, 0, 45, 5, 1<<64 - 1, 17, 0},
			64: {327733, 4164, 4102, 4160, 29, 4096},
			96: {253},
		}, map[int]api.Page{
			1: {Kind: 2, Space: 1, Used: 20}, 2: {Kind: 3, Space: 1},
			3: {Kind: 1, Space: 1, Used: 8, Pins: 4}, 4: {Kind: 1, Space: 1, Used: 6}, 6: {Kind: 2, Space: 1, Used: 16, Pins: 7},
		}, 4),
		[]uint64{4112, 4192},
		nil,
		api.Report{Copied: 2, Kept: 3, Filled: 2, Freed: 2, Steps: 1 + 19 + 1 + 1 + 3 + 1},
		api.OK,
	})
}

// 12.1: nothing is reachable: pins keep pages, but no objects.
func TestNoRoots(t *testing.T) {
	for space := range 2 {
		for _, strong := range [][]uint64{nil, {}, {0}, {0, 0, 0}} {
			got, _ := run(t, heaptest.Ordinary(space), strong, []uint64{0, 8, 7, 13, 1})
			if got.report != (api.Report{Filled: 3, Freed: 5, Cleared: 4}) || got.heap.Bump != -1 || got.heap.Space != 1-space {
				t.Errorf("roots %v: %v, Bump %d, Space %d", strong, got.report, got.heap.Bump, got.heap.Space)
			}
			if got.heap.Pages[6] != (api.Page{}) || got.heap.Pages[3] != (api.Page{Kind: 1, Space: 1 - space, Used: 8, Pins: 4}) {
				t.Errorf("roots %v: %v", strong, got.heap.Pages)
			}
		}
	}
}

// 12.1: each list of two strong roots, with all weak ones.
func TestAllPairsOfRoots(t *testing.T) {
	s := heaptest.Ordinary(1)
	weak := []uint64{0, 1, 3, 4, 5, 6, 7, 8, 9, 10, 11, 12, 13, 13, 0, 1}
	for a := range uint64(14) {
		for b := range uint64(14) {
			if a == 2 || b == 2 { // the Filler
				continue
			}
			if got, _ := run(t, s, []uint64{a, b}, weak); got.e != api.OK {
				t.Errorf("%d and %d: error %d", a, b, got.e)
			}
		}
	}
}

// 12.1: a weak root keeps nothing, also where nothing else has room, and each
// one that is cleared counts.
func TestWeakRoots(t *testing.T) {
	s := heaptest.Ordinary(0)
	for _, x := range []struct {
		strong, weak []uint64
		cleared      int
	}{
		{nil, nil, 0},
		{nil, []uint64{0}, 0},
		{nil, []uint64{0, 0, 0}, 0},
		{nil, []uint64{1}, 1},
		{nil, []uint64{1, 1, 0, 1}, 3},
		{[]uint64{1}, []uint64{1, 1, 0, 1}, 0},
		{[]uint64{1}, []uint64{3, 3, 0, 4, 3, 4}, 2},
		{[]uint64{4}, []uint64{1, 3, 4}, 2},         // 1 refers to 3, but only weakly
		{[]uint64{4}, []uint64{8, 10, 9}, 3},        // on the promoted page
		{[]uint64{8}, []uint64{8, 10, 9, 6}, 2},     // one object of three there
		{nil, []uint64{7, 13}, 2},                   // large
		{[]uint64{13, 7}, []uint64{7, 13, 1, 6}, 1}, // 7 refers to 1
		{nil, []uint64{11, 12}, 2},                  // refer to each other
		{[]uint64{12}, []uint64{11, 12, 13}, 0},     // by a cycle
	} {
		if got, _ := run(t, s, x.strong, x.weak); got.report.Cleared != x.cleared || got.e != api.OK {
			t.Errorf("%v and %v: %v, error %d", x.strong, x.weak, got.report, got.e)
		}
	}
	// No page is free, and only a promoted object is kept.
	got, _ := run(t, heaptest.Full(0), []uint64{9}, []uint64{1, 9, 10, 11, 8})
	if got.report.Cleared != 3 || got.e != api.OK {
		t.Errorf("%v, error %d", got.report, got.e)
	}
	// One page is free, and filled by four objects: the fifth has no room.
	got, _ = run(t, heaptest.Full(1), []uint64{1, 2, 3, 4}, []uint64{5, 1, 4, 5})
	if got.report.Cleared != 2 || got.e != api.OK {
		t.Errorf("%v, error %d", got.report, got.e)
	}
	many := slices.Repeat([]uint64{1, 3, 0, 9}, 500)
	if got, _ := run(t, s, []uint64{3}, many); got.report.Cleared != 1000 {
		t.Errorf("%v", got.report)
	}
}

// 12.1: on a promoted page with four objects of each size that a small object
// may have, each subset of which is reachable, and fillers between them.
func TestFillers(t *testing.T) {
	for n := 1; n <= 4; n++ {
		for between := range 2 {
			s := scene{Conf: api.Conf{PageWords: 64, Pages: 8}, Pinned: []int{5}}
			for k := range 4 {
				s.Things = append(s.Things, heaptest.Words(5, slices.Repeat([]uint64{9}, 4*n-1-k)...), heaptest.Filler(5, k%2))
				if between == 0 {
					s.Things = s.Things[:len(s.Things)-1]
				}
			}
			for subset := range 16 {
				var strong []uint64
				for k := range 4 {
					if subset&(1<<k) != 0 {
						strong = append(strong, uint64(k*(1+between)+1))
					}
				}
				got, _ := run(t, s, strong, nil)
				// The fillers of before neither count nor join the new ones.
				if c, _ := walk.Count(got.heap); got.report.Filled != 4-len(strong) || c.Fillers != 4-len(strong)+4*between || c.Objects != len(strong) {
					t.Errorf("%d words, roots %v: %v, %v", 4*n, strong, got.report, c)
				}
			}
		}
	}
}

// 12.1: pages that are full of objects without fields, or of one, two or four
// objects, pinned or not.
func TestFullPages(t *testing.T) {
	for _, size := range []int{1, 2, 4} {
		s := scene{Conf: heaptest.Conf, Pinned: []int{1}}
		for i := range 4 {
			for range 16 / size {
				s.Things = append(s.Things, heaptest.Refs(i, make([]uint64, size-1)...))
			}
		}
		n := uint64(16 / size)
		run(t, s, nil, []uint64{1, n, n + 1, 4 * n})
		run(t, s, []uint64{n + 1}, []uint64{n + 1, n + 2})
		run(t, s, []uint64{2 * n}, []uint64{n + 1})
		run(t, s, []uint64{n + 2, 4 * n, 1}, []uint64{n + 2})
		var all []uint64
		for k := range 4 * n {
			all = append(all, k+1)
		}
		if got, _ := run(t, s, all, all); got.report.Copied != int(3*n) || got.report.Kept != int(n) || got.report.Freed != 3 || got.heap.Bump != 6 {
			t.Errorf("size %d: %v, Bump %d", size, got.report, got.heap.Bump)
		}
	}
}

// 12.1: large objects of one to four pages. All their pages are freed or none,
// and their words become 0 or stay.
func TestLargeObjects(t *testing.T) {
	for k := 1; k <= 4; k++ {
		for _, n := range []int{max(16*(k-1), 4), 16*k - 1} {
			for _, pinned := range [][]int{nil, {2}} {
				l := slices.Repeat([]uint64{1}, n)
				s := scene{Conf: heaptest.Conf, Pinned: pinned, Things: []thing{heaptest.Words(2, l...), heaptest.Words(2 + k), heaptest.Refs(0, 1)}}
				if got, _ := run(t, s, nil, nil); got.report.Freed != k+2 || slices.ContainsFunc(got.heap.Words, func(w uint64) bool { return w != 0 }) {
					t.Errorf("%d words: %v", n+1, got.report)
				}
				if got, _ := run(t, s, []uint64{1}, nil); got.report != (api.Report{Kept: 1, Freed: 2, Steps: 1}) {
					t.Errorf("%d words: %v", n+1, got.report)
				}
				if got, _ := run(t, s, []uint64{3}, []uint64{1}); got.report != (api.Report{Kept: 1, Copied: 1, Freed: 2, Steps: 3}) {
					t.Errorf("%d words: %v", n+1, got.report)
				}
			}
		}
	}
	// Two large objects side by side, each of which may stay without the other.
	l := make([]uint64, 40)
	s := scene{Conf: api.Conf{PageWords: 16, Pages: 12}, Things: []thing{heaptest.Words(1, l...), heaptest.Words(4, l...), heaptest.Words(7, l...)}}
	for _, x := range [][]uint64{{1}, {2}, {3}, {1, 2}, {1, 3}, {2, 3}, {3, 2, 1}} {
		if got, _ := run(t, s, x, []uint64{1, 2, 3}); got.report.Freed != 9-3*len(x) || got.report.Cleared != 3-len(x) {
			t.Errorf("roots %v: %v", x, got.report)
		}
	}
}

// 12.1: SmallPages without objects are freed, unless they have pins.
func TestEmptyPages(t *testing.T) {
	s := scene{Conf: heaptest.Conf, Pinned: []int{3, 6}, Empty: []int{0, 3, 7}, Things: []thing{heaptest.Words(1, 7), heaptest.Filler(6, 2), heaptest.Filler(4, 0)}}
	for _, x := range []struct {
		strong []uint64
		report api.Report
		bump   int
	}{
		{nil, api.Report{Freed: 4}, -1},
		{[]uint64{1}, api.Report{Copied: 1, Freed: 4, Steps: 1}, 2},
	} {
		got, _ := run(t, s, x.strong, nil)
		if got.report != x.report || got.heap.Bump != x.bump || got.heap.Pages[3] != (api.Page{Kind: 1, Space: 1, Pins: 4}) {
			t.Errorf("%v, Bump %d, %v", got.report, got.heap.Bump, got.heap.Pages)
		}
		if l, _ := walk.Starts(got.heap); len(l) != 1+len(x.strong) {
			t.Errorf("%v", l)
		}
	}
}

// 12.1: Bump is the last page that is taken, and what it was before is of no
// account.
func TestBump(t *testing.T) {
	for n := range 17 { // objects of four words, four on a page
		s := scene{Conf: heaptest.Conf}
		var strong []uint64
		for k := range 16 {
			s.Things = append(s.Things, heaptest.Words(k/4, 1, 2, 3))
			if k < n {
				strong = append(strong, uint64(k+1))
			}
		}
		want := 3 + (n+3)/4
		if n == 0 {
			want = -1
		}
		for bump := -1; bump < 4; bump++ {
			h := s.Heap()
			h.Bump = bump
			got, _ := runIn(t, h, s, strong, nil)
			if got.heap.Bump != want || got.report != (api.Report{Copied: n, Freed: 4, Steps: n}) {
				t.Errorf("%d objects: Bump %d, want %d, %v", n, got.heap.Bump, want, got.report)
			}
		}
	}
	// The last page that is taken need not be the last one in use.
	s := scene{Conf: heaptest.Conf, Pinned: []int{7}, Things: []thing{heaptest.Words(1, 1), heaptest.Words(7, 2)}}
	for _, bump := range []int{-1, 1, 7} {
		h := s.Heap()
		h.Bump = bump
		for _, x := range []struct {
			strong []uint64
			want   int
		}{{[]uint64{2, 1}, 0}, {[]uint64{1}, 0}, {[]uint64{2}, -1}} {
			if got, _ := runIn(t, h, s, x.strong, nil); got.heap.Bump != x.want {
				t.Errorf("Bump %d before, %d after roots %v", bump, got.heap.Bump, x.strong)
			}
		}
	}
}

// 12.1: collection after collection, with fewer and fewer roots, in the heap
// that the one before has left. Allocations go on behind the last copy.
func TestAgainAndAgain(t *testing.T) {
	for space := range 2 {
		s := heaptest.Ordinary(space)
		strong, weak := []uint64{1, 8, 13, 12, 7, 4, 5}, []uint64{1, 3, 9, 10, 12, 13, 7}
		h := s.Heap()
		for len(strong) > 0 {
			got, o := runIn(t, h, s, strong, weak)
			again, same := runIn(t, got.heap, o.scene, heaptest.ValuesOf(o.ref, strong), heaptest.ValuesOf(o.ref, weak))
			if again.report.Cleared != 0 || again.report.Filled != 0 || again.report.Steps != got.report.Steps {
				t.Fatalf("a second collection: %v", again.report)
			}
			s, h = same.scene, again.heap
			strong, weak = heaptest.ValuesOf(same.ref, heaptest.ValuesOf(o.ref, strong[1:])), heaptest.ValuesOf(same.ref, heaptest.ValuesOf(o.ref, weak))
		}
		if got, _ := runIn(t, h, s, nil, weak); got.report.Freed != page.InUse(h.Pages)-1 {
			t.Errorf("%v", got.report)
		}
	}
	h, a, _ := alloc.New(collected(t, heaptest.Ordinary(0).Heap(), []uint64{4102}, nil).heap, api.Header{Kind: api.Refs, Length: 1})
	h, _ = object.SetField(h, a, 0, 4160)
	if a != 4162 {
		t.Errorf("allocation at %d", a)
	}
	got := collected(t, h, []uint64{a}, []uint64{4160})
	if !slices.Equal(got.strong, []uint64{4096}) || !slices.Equal(got.weak, []uint64{4098}) || got.heap.Space != 0 || got.heap.Bump != 0 {
		t.Errorf("%v", got)
	}
	keepsItsPurpose(t, h, []uint64{a}, []uint64{4160}, got)
}

// 12.1 to 12.3: irregular roots in irregular heaps, against the model.
func TestIrregularHeaps(t *testing.T) {
	results := map[api.Errno]int{}
	var sum api.Report
	for seed := range 700 {
		x := heaptest.Numbers(seed + 1)
		s := x.Scene()
		got, _ := run(t, s, x.Refs(s, x.Below(10)), x.Refs(s, x.Below(20)))
		results[got.e]++
		r := got.report
		sum.Copied, sum.Kept, sum.Filled = sum.Copied+r.Copied, sum.Kept+r.Kept, sum.Filled+r.Filled
		sum.Freed, sum.Cleared = sum.Freed+r.Freed, sum.Cleared+r.Cleared
	}
	if results[api.OK] < 200 || results[api.ErrMemory] < 100 || min(sum.Copied, sum.Kept, sum.Filled, sum.Freed, sum.Cleared) < 400 {
		t.Errorf("hardly any of one kind: %v, %v", results, sum)
	}
}

// 12.2: roots that are no references, strong and weak ones.
func TestRootsThatAreNoObjects(t *testing.T) {
	h := heaptest.Ordinary(0).Heap()
	good := []uint64{4096, 0, 4112, 4144, 4192, 4102}
	for _, bad := range append(heaptest.NoObjects(), 4160) {
		for k := range len(good) + 1 {
			l := slices.Insert(slices.Clone(good), k, bad)
			fails(t, h, l, nil, api.ErrCorrupt)
			fails(t, h, l, good, api.ErrCorrupt)
			fails(t, h, good, l, api.ErrCorrupt)
			fails(t, h, nil, l, api.ErrCorrupt)
			fails(t, h, l, l, api.ErrCorrupt)
		}
	}
	fails(t, h, good, good, api.OK)
	empty, _ := page.New(heaptest.Conf)
	fails(t, empty, []uint64{4096}, nil, api.ErrCorrupt)
	fails(t, empty, nil, []uint64{4096}, api.ErrCorrupt)
	fails(t, empty, []uint64{0}, []uint64{0}, api.OK)
}

// 12.2: no room for copies, and just enough. Roots that are no references come
// first.
func TestNoRoom(t *testing.T) {
	for n := range 4 {
		for k := range uint64(9) { // four objects have room on a page
			want := api.OK
			if int(k) > 4*n {
				want = api.ErrMemory
			}
			strong := []uint64{9, 10, 11, 0, 1, 2, 3, 4, 5, 6, 7, 8}[:4+k]
			if got, _ := run(t, heaptest.Full(n), strong, []uint64{1, 8, 9}); got.e != want {
				t.Errorf("%d pages, %d objects: error %d, want %d", n, k, got.e, want)
			}
			// Found by fields instead of roots.
			if got, _ := run(t, heaptest.Full(n, strong...), []uint64{11}, []uint64{1}); got.e != want {
				t.Errorf("%d pages, %d objects: error %d, want %d", n, k, got.e, want)
			}
			if want == api.ErrMemory {
				h, l := heaptest.Full(n).Heap(), heaptest.ValuesOf(heaptest.Full(n).Addresses(), strong)
				fails(t, h, l, nil, api.ErrMemory)
				fails(t, h, append(slices.Clone(l), 1), nil, api.ErrCorrupt)
				fails(t, h, l, []uint64{4097}, api.ErrCorrupt)
				fails(t, h, append([]uint64{4129}, l...), []uint64{0}, api.ErrCorrupt)
			}
		}
	}
}

// 12.2: heaps that are not proper, with roots that are references and others,
// and with other findings.
func TestHeapsThatAreNotProper(t *testing.T) {
	for k, h := range heaptest.NotProper() {
		if page.Proper(h) {
			t.Fatalf("heap %d is proper", k)
		}
		for _, l := range [][]uint64{nil, {4096}, {4097}} {
			fails(t, h, l, nil, api.ErrArg)
			fails(t, h, nil, l, api.ErrArg)
		}
		for i := range h.Words {
			h.Words[i] = 1
		}
		fails(t, h, []uint64{4096}, nil, api.ErrArg)
	}
	h := heaptest.Ordinary(0).Heap()
	h.Pages[3].Pins = math.MaxInt32
	if got := collected(t, h, nil, nil); got.e != api.OK || got.heap.Pages[3].Pins != math.MaxInt32 {
		t.Errorf("error %d, %v", got.e, got.heap.Pages)
	}
}

// 12.2: proper heaps that are not good, with roots that are references and
// others, and without room for copies.
func TestHeapsThatAreNotGood(t *testing.T) {
	fails(t, heaptest.Crowded(), []uint64{4096}, nil, api.OK)
	for k, h := range heaptest.NotGood() {
		if !page.Proper(h) || audit.Good(h) {
			t.Fatalf("heap %d is not proper, or good", k)
		}
		for _, l := range [][]uint64{nil, {0}, {4096}, {4097}, {4112, 4144, 4176}} {
			fails(t, h, l, nil, api.ErrCorrupt)
			fails(t, h, nil, l, api.ErrCorrupt)
		}
	}
	// A pointer to a field, and no room for copies.
	h := heaptest.Full(0).Heap()
	h.Words[33] = 4129
	fails(t, h, []uint64{4096}, nil, api.ErrCorrupt)
	fails(t, h, []uint64{4128, 4096}, nil, api.ErrCorrupt)
}

// 12.1 and 12.2: as many SmallPages with pins as there may be, and one more.
func TestCrowd(t *testing.T) {
	for _, c := range []api.Conf{heaptest.Conf, {PageWords: 16, Pages: 11}, {PageWords: 16, Pages: 12}, heaptest.Wide} {
		s := scene{Conf: c, Space: 1}
		var strong []uint64
		for i := range c.Pages / 2 {
			s.Things = append(s.Things, heaptest.Words(2*i, uint64(i)), heaptest.Refs(2*i, uint64(i/2*2+1)))
			strong = append(strong, uint64(2*i+2))
		}
		for i := range c.Pages / 4 {
			s.Pinned = append(s.Pinned, 4*i)
		}
		if got, _ := run(t, s, strong, []uint64{3}); got.e != api.OK {
			t.Errorf("%v: error %d", c, got.e)
		}
		run(t, s, nil, []uint64{3})
		s.Pinned = append(s.Pinned, 2)
		fails(t, s.Heap(), nil, nil, api.ErrCorrupt)
	}
}

// 12.3: a list over all words that a heap may use after allocations, in both
// directions, and as much as has room at all.
func TestLongList(t *testing.T) {
	for _, n := range []int{512, 1024, 1025} {
		for _, x := range []struct {
			s    scene
			root uint64
		}{{heaptest.List(n, false), 1}, {heaptest.List(n, true), uint64(n)}} {
			h, root := x.s.Heap(), x.s.Addresses()[x.root-1]
			got := collected(t, h, []uint64{root}, nil)
			if n > 1024 {
				equal(t, got, result{e: api.ErrMemory})
				continue
			}
			if got.report != (api.Report{Copied: n, Freed: n / 32, Steps: 2 * n}) || got.heap.Bump != n/16-1 {
				t.Errorf("%d objects: %v, Bump %d, error %d", n, got.report, got.heap.Bump, got.e)
			}
			keepsItsPurpose(t, h, []uint64{root}, nil, got)
		}
	}
}

// 12.3: all words of the arena are objects with pointers to each other. There
// are as many steps as words.
func TestFullHeap(t *testing.T) {
	s := heaptest.AllUsed()
	if got, _ := run(t, s, []uint64{8}, []uint64{9, 1}); got.report != (api.Report{Kept: 64, Steps: 4096}) {
		t.Errorf("%v", got.report)
	}
	if got, _ := run(t, s, nil, []uint64{9, 1}); got.report != (api.Report{Freed: 64, Cleared: 2}) {
		t.Errorf("%v", got.report)
	}
}

// Rule 7 of the language: results are new memory, also where nothing is left.
func TestNewMemory(t *testing.T) {
	empty, _ := page.New(heaptest.Conf)
	for _, x := range []struct {
		h            api.Heap
		strong, weak []uint64
	}{
		{heaptest.Ordinary(0).Heap(), []uint64{4112, 0, 4144}, []uint64{4112, 0, 4096, 4147}},
		{heaptest.Ordinary(1).Heap(), nil, []uint64{0, 0}},
		{scene{Conf: heaptest.Conf, Things: []thing{heaptest.Refs(0, make([]uint64, 15)...)}}.Heap(), []uint64{4096}, []uint64{4096}},
		{empty, []uint64{0}, []uint64{0, 0, 0}},
	} {
		h, roots, same := heaptest.Guarded(x.h, x.strong, x.weak)
		heap, strong, weak, _, _ := collect.Collect(h, roots[0], roots[1])
		if !heaptest.Overwrite(heap, strong, weak) || !same() {
			t.Errorf("the results for roots %v and %v share memory", x.strong, x.weak)
		}
	}
}

// R4: strong and weak roots may be the same list, or parts of one.
func TestOneList(t *testing.T) {
	l := []uint64{4112, 4144, 0}
	h := heaptest.Ordinary(0).Heap()
	_, strong, weak, _, _ := collect.Collect(h, l, l)
	if !slices.Equal(strong, l) || !slices.Equal(weak, l) || &strong[0] == &weak[0] {
		t.Errorf("%v, %v", strong, weak)
	}
	_, strong, weak, _, _ = collect.Collect(h, l[:1], l[1:])
	if !slices.Equal(strong, []uint64{4112}) || !slices.Equal(weak, []uint64{0, 0}) || !slices.Equal(l, []uint64{4112, 4144, 0}) {
		t.Errorf("%v, %v, %v", strong, weak, l)
	}
}

// R5: two calls with the same arguments have the same results.
func TestSameResults(t *testing.T) {
	h := heaptest.Ordinary(0).Heap()
	a := collected(t, h, []uint64{4112, 4106}, []uint64{4144, 4176})
	collected(t, h, nil, nil)
	equal(t, collected(t, h, []uint64{4112, 4106}, []uint64{4144, 4176}), a)
}

// R1: no call panics, and all end, on heaps that are as strange as can be.
func TestStrangeHeaps(t *testing.T) {
	for seed := range 300 {
		x := heaptest.Numbers(seed + 1)
		s := x.Scene()
		h := s.Heap()
		x.Spoil(&h)
		at := s.Addresses()
		strong, weak := heaptest.ValuesOf(at, x.Refs(s, 3)), heaptest.ValuesOf(at, x.Refs(s, 3))
		weak = append(weak, uint64(4096+x.Below(2*len(h.Words))))
		got := collected(t, h, strong, weak)
		if want := api.ErrArg; !page.Proper(h) && got.e != want {
			t.Errorf("error %d, want %d", got.e, want)
		}
		if want := api.ErrCorrupt; page.Proper(h) && !audit.Refers(h, append(strong, weak...)) && got.e != want {
			t.Errorf("error %d, want %d", got.e, want)
		}
		if got.e == api.OK {
			keepsItsPurpose(t, h, strong, weak, got)
		}
	}
}
