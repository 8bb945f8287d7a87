package bound_test

import (
	"math"
	"slices"
	"testing"

	"semispace/alloc"
	"semispace/api"
	"semispace/audit"
	"semispace/bound"
	"semispace/collect"
	"semispace/graph"
	"semispace/heaptest"
	"semispace/object"
	"semispace/page"
)

// words is the header of an object with so many words.
func words(size int) api.Header { return api.Header{Kind: api.Words, Length: size - 1} }

// equal checks the result of a request.
func equal(t *testing.T, got, want bound.Result) {
	t.Helper()
	if got.Addr != want.Addr || got.Collected != want.Collected || got.Report != want.Report ||
		!heaptest.SameHeap(got.Heap, want.Heap) || !slices.Equal(got.Strong, want.Strong) || !slices.Equal(got.Weak, want.Weak) {
		t.Fatalf("the result is\n%v, want\n%v", got, want)
	}
}

// requested is Request. It checks that the call leaves its arguments as they
// are, that the result is zero together with an error, and 7.4 and 12.3.
func requested(t *testing.T, h api.Heap, strong, weak []uint64, hd api.Header) (bound.Result, api.Errno) {
	t.Helper()
	h, roots, same := heaptest.Guarded(h, strong, weak)
	r, e := bound.Request(h, roots[0], roots[1], hd)
	if !same() {
		t.Fatal("the arguments have changed")
	}
	if e != api.OK {
		equal(t, r, bound.Result{})
		return r, e
	}
	a, _ := graph.Of(h, strong)
	b, _ := graph.Of(r.Heap, r.Strong)
	if !graph.Same(a, b) {
		t.Fatalf("the graph is %v, before %v", b, a)
	}
	if made, _ := object.Get(r.Heap, r.Addr); made != hd || page.InUse(r.Heap.Pages) > h.Conf.Pages/4 {
		t.Fatalf("%v at %d, and %d pages are in use", made, r.Addr, page.InUse(r.Heap.Pages))
	}
	if !audit.Refers(r.Heap, slices.Concat(r.Strong, r.Weak)) || slices.Contains(r.Strong, r.Addr) || slices.Contains(r.Weak, r.Addr) {
		t.Fatalf("the heap or the roots are not good: %v", audit.Check(r.Heap))
	}
	return r, e
}

// request is Request in a good heap. It checks the result against what the two
// layers that it uses do.
func request(t *testing.T, h api.Heap, strong, weak []uint64, hd api.Header) (bound.Result, api.Errno) {
	t.Helper()
	got, e := requested(t, h, strong, weak, hd)
	want := bound.Result{Strong: strong, Weak: weak}
	var wantError api.Errno
	want.Heap, want.Addr, wantError = alloc.New(h, hd)
	if wantError == api.ErrMemory {
		want.Collected = true
		want.Heap, want.Strong, want.Weak, want.Report, wantError = collect.Collect(h, strong, weak)
		if wantError == api.OK {
			want.Heap, want.Addr, wantError = alloc.New(want.Heap, hd)
		}
	}
	if wantError != api.OK {
		want = bound.Result{}
	}
	if e != wantError {
		t.Fatalf("error %d, want %d", e, wantError)
	}
	equal(t, got, want)
	return got, e
}

// fewPages is a heap of Conf with a reachable object at 4096 that refers to one
// of the two on page 1, the last of which is weakly reachable. All pages that
// may be in use are, and Bump has one word left.
func fewPages() scene {
	return scene{Conf: heaptest.Conf, Things: []thing{
		heaptest.Refs(0, 3, 0), heaptest.Words(0, 5, 6, 7),
		heaptest.Words(1, 8, 9), heaptest.Words(1, 1, 2, 3), heaptest.Words(1, 4, 5, 6), heaptest.Words(1, 7, 8, 9),
	}}
}

// 13.4: without a collection, the roots are as they are, also those that a
// collection would clear.
func TestRequestWithRoom(t *testing.T) {
	h := fewPages().Heap()
	r, e := request(t, h, []uint64{4096, 0, 4096}, []uint64{4115, 0, 4099}, words(1))
	want := h
	want.Words, want.Pages = slices.Clone(h.Words), slices.Clone(h.Pages)
	want.Words[31], want.Pages[1].Used = 13, 16
	equal(t, r, bound.Result{Heap: want, Strong: []uint64{4096, 0, 4096}, Weak: []uint64{4115, 0, 4099}, Addr: 4127})
	if e != api.OK {
		t.Errorf("error %d", e)
	}
	empty, _ := page.New(heaptest.Conf)
	for _, roots := range [][]uint64{nil, {}, {0}, {0, 0}} {
		for size := 1; size <= 32; size++ {
			r, e := request(t, empty, roots, roots, words(size))
			if e != api.OK || r.Addr != 4096 || r.Collected || r.Report != (api.Report{}) || len(r.Strong) != len(roots) {
				t.Errorf("%d words: %v, error %d", size, r, e)
			}
		}
	}
}

// 13.4: with a collection, of which the result has everything.
func TestRequestWithCollection(t *testing.T) {
	h := fewPages().Heap()
	r, e := request(t, h, []uint64{4096, 0}, []uint64{4115, 4112, 0, 4096, 4115}, words(2))
	want, _ := page.New(heaptest.Conf)
	copy(want.Words[32:], []uint64{41, 4131, 0, 45, 8, 9, 29}) // after both copies, the new object
	want.Space, want.Bump, want.Pages[2] = 1, 2, api.Page{Kind: api.SmallPage, Space: 1, Used: 8}
	equal(t, r, bound.Result{
		Heap: want, Strong: []uint64{4128, 0}, Weak: []uint64{0, 4131, 0, 4128, 0}, Addr: 4134,
		Collected: true, Report: api.Report{Copied: 2, Freed: 2, Cleared: 2, Steps: 4},
	})
	if e != api.OK {
		t.Errorf("error %d", e)
	}
	// A large object of one page, and nothing left.
	r, e = request(t, h, nil, []uint64{4096}, words(16))
	want, _ = page.New(heaptest.Conf)
	want.Words[0] = 253
	want.Space, want.Pages[0] = 1, api.Page{Kind: api.LargePage, Space: 1, Used: 16}
	equal(t, r, bound.Result{Heap: want, Weak: []uint64{0}, Addr: 4096, Collected: true, Report: api.Report{Freed: 2, Cleared: 1}})
	if e != api.OK {
		t.Errorf("error %d", e)
	}
}

// 13.4: how much has room after a collection, when more and more is alive.
func TestRequestRoomAfterCollection(t *testing.T) {
	s := fewPages()
	h, all := s.Heap(), s.Addresses()
	for _, x := range []struct {
		strong []uint64
		addr   map[int]uint64 // of objects of these sizes, or 0 if there is no room
	}{
		{all, map[int]uint64{2: 4152, 4: 4152, 5: 0, 16: 0, 17: 0, 33: 0}},                    // 14 and 8 words
		{all[2:], map[int]uint64{2: 4096, 4: 4096, 5: 4096, 16: 4096, 17: 0, 33: 0}},          // 15 words, so that Bump has no room
		{all[3:], map[int]uint64{2: 4140, 4: 4140, 5: 4096, 16: 4096, 17: 0, 33: 0}},          // 12 words
		{nil, map[int]uint64{2: 4096, 4: 4096, 5: 4096, 16: 4096, 17: 4096, 32: 4096, 33: 0}}, // nothing
	} {
		for size, addr := range x.addr {
			r, e := request(t, h, x.strong, all, words(size))
			want := api.OK
			if addr == 0 {
				want = api.ErrMemory
			}
			if e != want || r.Addr != addr || r.Collected != (e == api.OK) {
				t.Errorf("roots %v, %d words: address %d, error %d, want %d", x.strong, size, r.Addr, e, addr)
			}
		}
	}
}

// 13.4: a collection for a large object, with less and less that is alive.
func TestRequestLargeObjects(t *testing.T) {
	s := scene{Conf: api.Conf{PageWords: 16, Pages: 16}}
	for k := range 16 {
		s.Things = append(s.Things, heaptest.Words(k/4, 1, 2, 3))
	}
	h, all := s.Heap(), s.Addresses()
	for n := range 17 {
		for k := 1; k <= 4; k++ {
			want := api.OK
			if (n+3)/4+k > 4 {
				want = api.ErrMemory
			}
			r, e := request(t, h, all[:n], all, words(16*k))
			if e != want || e == api.OK && (!r.Collected || r.Report != (api.Report{Copied: n, Freed: 4, Cleared: 16 - n, Steps: n})) {
				t.Errorf("%d objects and %d pages: %v, error %d, want %d", n, k, r, e, want)
			}
		}
	}
}

// 13.4: irregular requests in irregular heaps.
func TestRequestIrregularHeaps(t *testing.T) {
	results := map[api.Errno]int{}
	collected, sure := 0, 0
	for seed := range 700 {
		x := heaptest.Numbers(seed + 1)
		s := x.Scene()
		h, at := s.Heap(), s.Addresses()
		roots := x.Refs(s, x.Below(4))
		strong, weak := heaptest.ValuesOf(at, roots), heaptest.ValuesOf(at, x.Refs(s, x.Below(8)))
		hd := words(1 + x.Below(2*s.Conf.PageWords))
		r, e := request(t, h, strong, weak, hd)
		results[e]++
		if r.Collected {
			collected++
		}
		if keepsItsWord(t, h, strong, hd, e) {
			sure++
		}
	}
	if min(results[api.OK], results[api.ErrMemory], collected, sure) < 50 {
		t.Errorf("hardly any of one kind: %v, %d collections, %d were sure", results, collected, sure)
	}
}

// keepsItsWord checks 13.5 for the error of a request in a good heap. It reports
// whether the request was sure.
func keepsItsWord(t *testing.T, h api.Heap, strong []uint64, hd api.Header, e api.Errno) bool {
	t.Helper()
	l, _ := bound.Measure(h, strong)
	copies := bound.Pages(h.Conf, bound.Live{Small: l.Small})
	if !bound.Sure(h.Conf, l, hd) || h.Conf.Pages-page.InUse(h.Pages) < copies {
		return false
	}
	if e != api.OK {
		t.Fatalf("%+v, %v: error %d", l, hd, e)
	}
	return true
}

// 13.5: as many copies as the bound says: the last object does not fit by one
// word, on page after page.
func TestBoundIsReached(t *testing.T) {
	s := scene{Conf: heaptest.Wide}
	var roots []uint64
	add := func(page, size int) {
		s.Things = append(s.Things, heaptest.Words(page, make([]uint64, size-1)...))
		roots = append(roots, uint64(len(s.Things)))
	}
	for i := range 12 {
		add(i, 16)
		l := measure(t, s, roots)
		h := s.Heap()
		after, _, _, _, e := collect.Collect(h, heaptest.ValuesOf(s.Addresses(), roots), nil)
		if n := page.InUse(after.Pages); e != api.OK || n != i+1 || bound.Pages(s.Conf, l) != n {
			t.Errorf("%d pages are in use, the bound for %+v is %d, error %d", n, l, bound.Pages(s.Conf, l), e)
		}
		for _, size := range []int{16, 16, 1} { // 49 words, so that 15 are left
			add(i, size)
		}
	}
}

// program is what uses a heap in the way of the calls of the system: its roots
// and, among them, what is pinned.
type program struct {
	heap  api.Heap
	roots []uint64
	pins  []uint64
	*heaptest.Numbers
}

// strong are the strong roots of a program.
func (p *program) strong() []uint64 { return slices.Concat(p.roots, p.pins) }

// after goes on in the heap after a request or a collection.
func (p *program) after(h api.Heap, strong []uint64) {
	p.heap, p.roots, p.pins = h, strong[:len(p.roots)], strong[len(p.roots):]
}

// drop gives up a root.
func (p *program) drop() {
	if len(p.roots) > 0 {
		k := p.Below(len(p.roots))
		p.roots = slices.Delete(p.roots, k, k+1)
	}
}

// refer sets a field of an object.
func (p *program) refer() {
	if len(p.roots) > 0 {
		a, b := p.roots[p.Below(len(p.roots))], p.roots[p.Below(len(p.roots))]
		if hd, _ := object.Get(p.heap, a); hd.Kind == api.Refs && hd.Length > 0 {
			p.heap, _ = object.SetField(p.heap, a, p.Below(hd.Length), b)
		}
	}
}

// pin pins an object, or unpins all. There are pins on at most as many pages as
// a good heap may have.
func (p *program) pin() {
	h := p.heap
	h.Pages = slices.Clone(h.Pages)
	if len(p.roots) == 0 || len(p.pins) > 3 {
		for i := range h.Pages {
			h.Pages[i].Pins = 0
		}
		p.heap, p.pins = h, nil
		return
	}
	ref := p.roots[p.Below(len(p.roots))]
	i, _, _ := page.Of(h.Conf, ref)
	h.Pages[i].Pins++
	if audit.Good(h) {
		p.heap, p.pins = h, append(slices.Clone(p.pins), ref)
	}
}

// allocate makes a request, and checks what 13.5 says of it.
func (p *program) allocate(t *testing.T) api.Errno {
	t.Helper()
	h, strong := p.heap, p.strong()
	hd := api.Header{Kind: api.Refs, Length: p.Below(h.Conf.PageWords / 4)}
	if p.Below(4) == 0 {
		hd.Length = p.Below(3 * h.Conf.PageWords)
	}
	r, e := request(t, h, strong, nil, hd)
	l, _ := bound.Measure(h, strong)
	if h.Conf.Pages-page.InUse(h.Pages) < bound.Pages(h.Conf, bound.Live{Small: l.Small}) {
		t.Fatalf("%d pages are in use, which is too many for %+v", page.InUse(h.Pages), l)
	}
	keepsItsWord(t, h, strong, hd, e)
	if e == api.OK {
		p.after(r.Heap, r.Strong)
		p.roots = append(slices.Clone(p.roots), r.Addr)
	}
	return e
}

// 13.5: in heaps that the calls of the system make, there are always enough
// FreePages for a collection, and what is sure never fails.
func TestPrograms(t *testing.T) {
	results := map[api.Errno]int{}
	for seed := range 24 {
		x := heaptest.Numbers(seed + 1)
		h, _ := page.New(api.Conf{PageWords: 16 + 4*x.Below(5), Pages: 8 + 4*x.Below(6)})
		p := program{heap: h, Numbers: &x}
		for range 250 {
			switch x.Below(10) {
			case 0, 1:
				p.drop()
			case 2, 3:
				p.refer()
			case 4:
				p.pin()
			case 5:
				if x.Below(4) > 0 {
					break
				}
				strong := p.strong()
				l, _ := bound.Measure(p.heap, strong)
				leaves(t, p.heap, strong, l)
				after, roots, _, _, e := collect.Collect(p.heap, strong, nil)
				if e != api.OK {
					t.Fatalf("a collection has error %d", e)
				}
				p.after(after, roots)
			default:
				e := p.allocate(t)
				results[e]++
				if e != api.OK {
					p.roots = nil
				}
			}
		}
	}
	if min(results[api.OK], results[api.ErrMemory]) < 100 {
		t.Errorf("hardly any of one kind: %v", results)
	}
}

// refuses checks an error of Request.
func refuses(t *testing.T, h api.Heap, strong, weak []uint64, hd api.Header, want api.Errno) {
	t.Helper()
	if _, e := requested(t, h, strong, weak, hd); e != want {
		t.Fatalf("roots %v and %v, %v: error %d, want %d", strong, weak, hd, e, want)
	}
}

// noHeaders are what cannot be asked for in a heap of Conf.
func noHeaders() []api.Header {
	return []api.Header{
		{}, {Length: 3}, {Kind: 4}, {Kind: -1, Length: 3}, words(0), words(65), words(257), words(math.MaxInt), words(math.MinInt + 1),
		{Kind: api.Refs, Length: 64}, {Kind: api.Refs, Length: 3, Map: 1}, {Kind: api.Record, Length: 33}, {Kind: api.Record, Length: 1, Map: 2},
	}
}

// 13.4: ErrArg comes first.
func TestRequestArg(t *testing.T) {
	lists := [][]uint64{nil, {4096}, {4097}}
	for _, h := range heaptest.NotProper() {
		for _, l := range lists {
			refuses(t, h, l, nil, words(4), api.ErrArg)
			refuses(t, h, nil, l, words(4), api.ErrArg)
			refuses(t, h, l, l, words(0), api.ErrArg)
		}
	}
	empty, _ := page.New(heaptest.Conf)
	heaps := append(heaptest.NotGood(), heaptest.Crowded(), empty, heaptest.Full(0).Heap(), heaptest.Full(3).Heap(), fewPages().Heap())
	for _, h := range heaps {
		for _, hd := range noHeaders() {
			for _, l := range lists {
				refuses(t, h, l, nil, hd, api.ErrArg)
				refuses(t, h, nil, l, hd, api.ErrArg)
			}
		}
	}
}

// 13.4: heaps that are not good, and roots that are no references, with room for
// the object, without, and if there would be none after a collection, either.
func TestRequestCorrupt(t *testing.T) {
	for _, h := range heaptest.NotGood() {
		for _, hd := range []api.Header{words(1), words(4), words(16), words(64)} {
			for _, l := range [][]uint64{nil, {0}, {4096}, {4097}} {
				refuses(t, h, l, nil, hd, api.ErrCorrupt)
				refuses(t, h, nil, l, hd, api.ErrCorrupt)
			}
		}
	}
	h := fewPages().Heap()
	good := []uint64{4096, 0, 4099, 4115}
	for _, bad := range []uint64{1, 4095, 4097, 4111, 4127, 4128, 4224, 1<<32 + 4096, 1<<64 - 1} {
		for k := range len(good) + 1 {
			l := slices.Insert(slices.Clone(good), k, bad)
			for _, hd := range []api.Header{words(1), words(2), words(4), words(16), words(64)} {
				refuses(t, h, l, nil, hd, api.ErrCorrupt)
				refuses(t, h, nil, l, hd, api.ErrCorrupt)
				refuses(t, h, good, l, hd, api.ErrCorrupt)
				refuses(t, h, l, good, hd, api.ErrCorrupt)
				refuses(t, h, l, l, hd, api.ErrCorrupt)
			}
		}
	}
	// There would be no room for copies.
	full := heaptest.Full(0)
	l := append(full.Addresses()[:1], 4097)
	refuses(t, full.Heap(), l, nil, words(4), api.ErrCorrupt)
	refuses(t, full.Heap(), l[:1], l[1:], words(4), api.ErrCorrupt)
	refuses(t, full.Heap(), l[:1], nil, words(4), api.ErrMemory)
	empty, _ := page.New(heaptest.Conf)
	refuses(t, empty, []uint64{4096}, nil, words(4), api.ErrCorrupt) // the address that it would have
	refuses(t, empty, nil, []uint64{4096}, words(4), api.ErrCorrupt)
}

// 13.4: ErrMemory of the collection, and of the allocation after it.
func TestRequestMemory(t *testing.T) {
	for n := range 4 {
		s := heaptest.Full(n)
		h, at := s.Heap(), s.Addresses()
		for k := range 9 {
			for _, size := range []int{1, 4, 5, 16, 64} {
				// One page is pinned, and another one may be in use, with four
				// copies. Even one copy needs a FreePage.
				fits := k == 0 && size <= 16 || n > 0 && k < 4 && size <= 4
				want := api.OK
				if !fits {
					want = api.ErrMemory
				}
				_, e := request(t, h, at[:k], at, words(size))
				if e != want {
					t.Errorf("%d pages, %d objects, %d words: error %d, want %d", n, k, size, e, want)
				}
			}
		}
	}
}

// Rule 7 of the language: results are new memory, with and without a collection.
func TestNewMemory(t *testing.T) {
	for _, size := range []int{1, 4} {
		for _, roots := range [][]uint64{{4096, 0}, {}} {
			h, l, same := heaptest.Guarded(fewPages().Heap(), roots, roots)
			r, e := bound.Request(h, l[0], l[1], words(size))
			if e != api.OK || r.Collected != (size == 4) {
				t.Fatalf("%v, error %d", r, e)
			}
			if !heaptest.Overwrite(r.Heap, r.Strong, r.Weak) || !same() {
				t.Errorf("the result for roots %v and %d words shares memory", roots, size)
			}
		}
	}
}

// R5: two calls with the same arguments have the same results.
func TestSameResults(t *testing.T) {
	h := heaptest.Ordinary(0).Heap()
	strong, weak := []uint64{4112, 4106}, []uint64{4144, 4176}
	a, _ := requested(t, h, strong, weak, words(4))
	l, _ := measured(t, h, strong)
	requested(t, h, nil, nil, words(16))
	again, _ := requested(t, h, strong, weak, words(4))
	equal(t, again, a)
	if got, _ := measured(t, h, strong); got != l {
		t.Errorf("%+v, before %+v", got, l)
	}
}

// R1: no call panics, and all end, on heaps that are as strange as can be.
func TestStrangeHeaps(t *testing.T) {
	results := map[api.Errno]int{}
	for seed := range 1000 {
		x := heaptest.Numbers(seed + 1)
		s := x.Scene()
		h := s.Heap()
		x.Spoil(&h)
		at := s.Addresses()
		strong, weak := heaptest.ValuesOf(at, x.Refs(s, 3)), heaptest.ValuesOf(at, x.Refs(s, 3))
		hd := words(1 + x.Below(20))
		if x.Below(4) == 0 {
			hd = api.Header{Kind: x.Below(6) - 1, Length: x.Below(40) - 1, Map: uint32(x.Below(3))}
		}
		_, e := requested(t, h, strong, weak, hd)
		results[e]++
		want := api.OK
		switch {
		case !page.Proper(h) || !alloc.Asks(h.Conf, hd):
			want = api.ErrArg
		case !audit.Refers(h, slices.Concat(strong, weak)):
			want = api.ErrCorrupt
		case e == api.ErrMemory: // where else that is right is examined above
			want = api.ErrMemory
		}
		if e != want {
			t.Errorf("error %d, want %d", e, want)
		}
		switch _, e := measured(t, h, strong); {
		case !page.Proper(h) && e != api.ErrArg, page.Proper(h) && audit.Refers(h, strong) != (e == api.OK):
			t.Errorf("Measure has error %d", e)
		}
	}
	if min(results[api.OK], results[api.ErrArg], results[api.ErrCorrupt], results[api.ErrMemory]) < 15 {
		t.Errorf("hardly any of one kind: %v", results)
	}
}
