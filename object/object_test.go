package object

import (
	"math"
	"slices"
	"testing"

	"semispace/api"
	"semispace/header"
	"semispace/page"
)

// word is the word of a header, in numbers instead of bits.
func word(kind, length int, m uint32) uint64 {
	return 1 + 4*uint64(kind) + 16*uint64(length) + 65536*uint64(m)
}

// address is the address of a word in a heap with pages of 16 words.
func address(page, offset int) uint64 { return 4096 + uint64(16*page+offset) }

// heapOf returns a heap whose words are w. The memory between the lengths and
// capacities of its slices contains marks, which must stay.
func heapOf(c api.Conf, pages []api.Page, w uint64) api.Heap {
	n := c.PageWords * c.Pages
	h := api.Heap{Conf: c, Words: slices.Repeat([]uint64{w}, n+4), Pages: make([]api.Page, c.Pages+2), Bump: -1}
	copy(h.Pages, pages)
	for i := range 4 {
		h.Words[n+i] = 77
	}
	h.Pages[c.Pages].Kind, h.Pages[c.Pages+1].Kind = 77, 77
	h.Words, h.Pages = h.Words[:n], h.Pages[:c.Pages]
	return h
}

var conf = api.Conf{PageWords: 16, Pages: 8}

// ordinary returns a proper heap with each kind of page. Words that are no
// header differ from each other.
func ordinary() api.Heap {
	h := heapOf(conf, []api.Page{
		{Kind: api.SmallPage, Used: 16, Pins: 2}, {Kind: api.SmallPage, Space: 1, Used: 7},
		{Kind: api.LargePage, Used: 40, Pins: 1}, {Kind: api.TailPage}, {Kind: api.TailPage},
		{}, {Kind: api.LargePage, Space: 1, Used: 17}, {Kind: api.TailPage, Space: 1},
	}, 0)
	h.Space, h.Bump = 1, 1
	for i := range h.Words {
		h.Words[i] = 4000 + 4*uint64(i)
	}
	for _, x := range []struct {
		page, offset int
		w            uint64
	}{
		{0, 0, word(api.Words, 3, 0)}, {0, 4, word(api.Record, 2, 2)}, {0, 7, word(api.Filler, 1, 0)},
		{0, 9, word(api.Refs, 0, 0)}, {0, 10, word(api.Record, 0, 0)}, {0, 11, word(api.Filler, 0, 0)},
		{0, 12, word(api.Refs, 3, 0)}, // up to Used
		{1, 0, word(api.Refs, 2, 0)},
		{1, 3, word(api.Words, 3, 0)}, // up to Used, with fields that could be headers
		{1, 4, word(api.Words, 2, 0)}, // up to Used
		{1, 5, word(api.Words, 2, 0)}, // one word further
		{1, 6, word(api.Words, 0, 0)}, // at Used - 1
		{1, 7, word(api.Words, 0, 0)}, // at Used
		{1, 8, word(api.Words, 0, 0)}, // one word further
		{2, 0, word(api.Words, 39, 0)},
		{2, 1, word(api.Words, 38, 0)}, {2, 2, word(api.Words, 39, 0)}, {3, 0, word(api.Words, 39, 0)},
		{4, 7, word(api.Words, 0, 0)}, {4, 8, word(api.Words, 0, 0)},
		{5, 0, word(api.Words, 0, 0)}, {5, 15, word(api.Refs, 0, 0)},
		{6, 0, word(api.Refs, 16, 0)}, {7, 0, word(api.Refs, 0, 0)}, {7, 15, word(api.Words, 0, 0)},
	} {
		h.Words[16*x.page+x.offset] = x.w
	}
	return h
}

// sameHeap reports whether two heaps are equal.
func sameHeap(a, b api.Heap) bool {
	return a.Conf == b.Conf && slices.Equal(a.Words, b.Words) && slices.Equal(a.Pages, b.Pages) && a.Space == b.Space && a.Bump == b.Bump
}

// snapshot returns a copy of a heap and of the memory behind its slices.
func snapshot(h api.Heap) api.Heap {
	h.Words = slices.Clone(h.Words[:cap(h.Words)])
	h.Pages = slices.Clone(h.Pages[:cap(h.Pages)])
	return h
}

// checkUnchanged fails if a heap is not as it was before.
func checkUnchanged(t *testing.T, h, before api.Heap) {
	t.Helper()
	if !sameHeap(snapshot(h), before) {
		t.Fatal("the argument has changed")
	}
}

// model is the chapter's definition of At in a proper heap.
func model(h api.Heap, addr uint64) (api.Header, api.Errno) {
	if addr < 4096 || addr > 4095+uint64(len(h.Words)) {
		return api.Header{}, api.ErrRange
	}
	n := int(addr - 4096)
	p, offset := h.Pages[n/h.Conf.PageWords], n%h.Conf.PageWords
	hd, ok := header.Decode(h.Words[n])
	size := hd.Length + 1
	if p.Kind == 0 || p.Kind == 3 || offset >= p.Used || !ok ||
		p.Kind == 1 && offset+size > p.Used || p.Kind == 2 && (offset != 0 || size != p.Used) {
		return api.Header{}, api.ErrCorrupt
	}
	return hd, api.OK
}

// modelGet is the chapter's definition of Get in a proper heap.
func modelGet(h api.Heap, addr uint64) (api.Header, api.Errno) {
	hd, e := model(h, addr)
	switch {
	case addr == 0:
		return api.Header{}, api.ErrNull
	case e != api.OK:
		return api.Header{}, e
	case hd.Kind == 0:
		return api.Header{}, api.ErrKind
	}
	return hd, api.OK
}

// addresses are those of all words, those around the first and the last one,
// and extreme ones.
func addresses(h api.Heap) []uint64 {
	behind := 4096 + uint64(len(h.Words))
	l := []uint64{0, 1, 16, 4094, behind + 1, behind + 2, 2 * behind, 1<<32 + 4096, 1 << 63, 1<<63 + 4096, math.MaxUint64 - 1, math.MaxUint64}
	for addr := uint64(4095); addr <= behind; addr++ {
		l = append(l, addr)
	}
	return l
}

// indexes are those around the first and the last of n fields, and extreme
// ones.
func indexes(n int) []int {
	return []int{math.MinInt, -1 << 32, -2, -1, 0, 1, n - 2, n - 1, n, n + 1, 1 << 32, math.MaxInt - 1, math.MaxInt}
}

// checkHeap compares what At, Get, Fields, Extent, Field and SetField say of a
// proper heap with the definitions.
func checkHeap(t *testing.T, h api.Heap) {
	t.Helper()
	before := snapshot(h)
	for _, addr := range addresses(h) {
		want, wantE := model(h, addr)
		if got, e := At(h, addr); got != want || e != wantE {
			t.Fatalf("At of %d: %v, error %d, want %v, error %d", addr, got, e, want, wantE)
		}
		want, wantE = modelGet(h, addr)
		if got, e := Get(h, addr); got != want || e != wantE {
			t.Fatalf("Get of %d: %v, error %d, want %v, error %d", addr, got, e, want, wantE)
		}
		checkFields(t, h, addr, want, wantE)
		for _, i := range indexes(want.Length) {
			checkField(t, h, addr, i, want, wantE)
		}
	}
	checkUnchanged(t, h, before)
}

// checkFields checks Fields and Extent of an object with this header, if Get
// returns no error.
func checkFields(t *testing.T, h api.Heap, addr uint64, hd api.Header, wantE api.Errno) {
	t.Helper()
	var want []uint64
	var wantFrom, wantTo uint64
	if wantE == api.OK {
		wantFrom, wantTo = addr+1, addr+1+uint64(hd.Length)
		want = h.Words[wantFrom-4096 : wantTo-4096]
	}
	if got, e := Fields(h, addr); !slices.Equal(got, want) || e != wantE {
		t.Fatalf("Fields of %d: %v, error %d, want %v, error %d", addr, got, e, want, wantE)
	}
	if from, to, e := Extent(h, addr); from != wantFrom || to != wantTo || e != wantE {
		t.Fatalf("Extent of %d: %d to %d, error %d, want %d to %d, error %d", addr, from, to, e, wantFrom, wantTo, wantE)
	}
}

// checkField checks Field and SetField of an object with this header, if Get
// returns no error.
func checkField(t *testing.T, h api.Heap, addr uint64, i int, hd api.Header, wantE api.Errno) {
	t.Helper()
	if wantE == api.OK && (i < 0 || i > hd.Length-1) {
		wantE = api.ErrRange
	}
	want, changed := uint64(0), api.Heap{}
	if wantE == api.OK {
		n := addr + 1 + uint64(i) - 4096
		want, changed = h.Words[n], h
		changed.Words = slices.Clone(h.Words)
		changed.Words[n] = 987654321
	}
	if got, e := Field(h, addr, i); got != want || e != wantE {
		t.Fatalf("Field %d of %d: %d, error %d, want %d, error %d", i, addr, got, e, want, wantE)
	}
	if got, e := SetField(h, addr, i, 987654321); !sameHeap(got, changed) || e != wantE {
		t.Fatalf("SetField %d of %d: error %d, want %d, or another heap", i, addr, e, wantE)
	}
}

// 5.1, 5.2 and 5.3
func TestOrdinaryHeap(t *testing.T) {
	h := ordinary()
	if !page.Proper(h) {
		t.Fatal("the heap of the tests is not proper")
	}
	checkHeap(t, h)
}

// smallPages returns eight SmallPages with Used from a number on, at most 16.
func smallPages(used int) []api.Page {
	var pages []api.Page
	for i := range 8 {
		pages = append(pages, api.Page{Kind: api.SmallPage, Space: i % 2, Used: min(used+i, 16)})
	}
	return pages
}

// 5.1, 5.2 and 5.3: each Used, and at each offset each header that has a
// chance to fit.
func TestObjectsOnSmallPages(t *testing.T) {
	for used := 0; used <= 16; used += 8 {
		for kind := range 4 {
			for length := range 18 {
				checkHeap(t, heapOf(conf, smallPages(used), word(kind, length, 0)))
			}
		}
		checkHeap(t, heapOf(conf, smallPages(used), word(api.Record, 3, 5)))
		checkHeap(t, heapOf(conf, smallPages(used), word(api.Words, 255, 0)))
	}
}

// largePage returns a table of FreePages, but for a LargePage 1 and its tails.
func largePage(c api.Conf, used int) []api.Page {
	pages := make([]api.Page, c.Pages)
	pages[1] = api.Page{Kind: api.LargePage, Used: used}
	for i := 1; i < page.Need(c, used); i++ {
		pages[1+i].Kind = api.TailPage
	}
	return pages
}

// 5.1, 5.2 and 5.3: each Used, and headers with this size and others.
func TestObjectsOnLargePages(t *testing.T) {
	for used := 5; used <= 64; used++ {
		for _, length := range []int{0, 3, used - 3, used - 2, used - 1, used, used + 1, 63, 255} {
			for kind := range 4 {
				if kind != api.Record || length <= 32 {
					checkHeap(t, heapOf(conf, largePage(conf, used), word(kind, length, 0)))
				}
			}
		}
	}
}

// 5.1: words that are no header, wherever they are.
func TestAtOfNoHeader(t *testing.T) {
	for _, w := range []uint64{
		0, 2, 3, 4, 4096, 16386, // no tag, the forwarding tag and both
		1<<48 | word(api.Words, 0, 0), 1<<63 | word(api.Words, 0, 0), // a bit above the Map
		word(api.Filler, 0, 1), word(api.Refs, 1, 1), word(api.Words, 1, 1), // a Map where there is none
		word(api.Record, 0, 1), word(api.Record, 2, 4), // a Map with a bit from Length on
		word(api.Record, 33, 0), word(api.Words, 256, 0), word(api.Refs, 4095, 0), // a Length above the limits
		math.MaxUint64,
	} {
		for _, pages := range [][]api.Page{smallPages(0), smallPages(8), smallPages(16), largePage(conf, 5), largePage(conf, 34)} {
			h := heapOf(conf, pages, w)
			for _, addr := range addresses(h) {
				want := api.ErrCorrupt
				if addr < 4096 || addr > 4096+127 {
					want = api.ErrRange
				}
				if hd, e := At(h, addr); hd != (api.Header{}) || e != want {
					t.Fatalf("At of %d, where each word is %#x: %v, error %d, want error %d", addr, w, hd, e, want)
				}
			}
			checkHeap(t, h)
		}
	}
}

// 5.1 and 5.2: the edge cases, written out.
func TestAtAndGetAtTheLimits(t *testing.T) {
	words := func(n int) api.Header { return api.Header{Kind: api.Words, Length: n} }
	refs := func(n int) api.Header { return api.Header{Kind: api.Refs, Length: n} }
	filler := func(n int) api.Header { return api.Header{Length: n} }
	for _, x := range []struct {
		name string
		addr uint64
		want api.Header
		atE  api.Errno
		getE api.Errno
	}{
		{"address 0", 0, api.Header{}, api.ErrRange, api.ErrNull},
		{"below Base", 4095, api.Header{}, api.ErrRange, api.ErrRange},
		{"behind the last word", 4224, api.Header{}, api.ErrRange, api.ErrRange},
		{"the greatest address", math.MaxUint64, api.Header{}, api.ErrRange, api.ErrRange},
		{"the first word", 4096, words(3), api.OK, api.OK},
		{"a record", address(0, 4), api.Header{Kind: api.Record, Length: 2, Map: 2}, api.OK, api.OK},
		{"a filler", address(0, 7), filler(1), api.OK, api.ErrKind},
		{"a filler of one word", address(0, 11), filler(0), api.OK, api.ErrKind},
		{"no fields", address(0, 9), refs(0), api.OK, api.OK},
		{"a field", address(0, 1), api.Header{}, api.ErrCorrupt, api.ErrCorrupt},
		{"up to the end of a page", address(0, 12), refs(3), api.OK, api.OK},
		{"up to Used", address(1, 3), words(3), api.OK, api.OK},
		{"a field that could be a header", address(1, 4), words(2), api.OK, api.OK},
		{"one word behind Used", address(1, 5), api.Header{}, api.ErrCorrupt, api.ErrCorrupt},
		{"at Used - 1", address(1, 6), words(0), api.OK, api.OK},
		{"at Used", address(1, 7), api.Header{}, api.ErrCorrupt, api.ErrCorrupt},
		{"at Used + 1", address(1, 8), api.Header{}, api.ErrCorrupt, api.ErrCorrupt},
		{"large", address(2, 0), words(39), api.OK, api.OK},
		{"large, offset 1", address(2, 1), api.Header{}, api.ErrCorrupt, api.ErrCorrupt},
		{"large, offset 2", address(2, 2), api.Header{}, api.ErrCorrupt, api.ErrCorrupt},
		{"a tail's first word", address(3, 0), api.Header{}, api.ErrCorrupt, api.ErrCorrupt},
		{"large, its last word", address(4, 7), api.Header{}, api.ErrCorrupt, api.ErrCorrupt},
		{"large, behind it", address(4, 8), api.Header{}, api.ErrCorrupt, api.ErrCorrupt},
		{"free", address(5, 0), api.Header{}, api.ErrCorrupt, api.ErrCorrupt},
		{"free, its last word", address(5, 15), api.Header{}, api.ErrCorrupt, api.ErrCorrupt},
		{"large in the other space", address(6, 0), refs(16), api.OK, api.OK},
		{"the last word, on a tail", 4223, api.Header{}, api.ErrCorrupt, api.ErrCorrupt},
	} {
		if got, e := At(ordinary(), x.addr); got != x.want || e != x.atE {
			t.Errorf("%s: At: %v, error %d", x.name, got, e)
		}
		if x.getE != api.OK {
			x.want = api.Header{}
		}
		if got, e := Get(ordinary(), x.addr); got != x.want || e != x.getE {
			t.Errorf("%s: Get: %v, error %d", x.name, got, e)
		}
	}
}

// 5.1: a large object's header must have just the page's size.
func TestAtOfLargeSizes(t *testing.T) {
	for length, want := range map[int]api.Errno{0: api.ErrCorrupt, 15: api.ErrCorrupt, 38: api.ErrCorrupt, 39: api.OK, 40: api.ErrCorrupt, 255: api.ErrCorrupt} {
		h := ordinary()
		h.Words[32] = word(api.Words, length, 0)
		if hd, e := At(h, address(2, 0)); e != want || e == api.OK && hd.Length != 39 || e != api.OK && hd != (api.Header{}) {
			t.Errorf("Length %d: %v, error %d, want error %d", length, hd, e, want)
		}
	}
	// A Filler may take the place of a large object, as far as At is concerned.
	h := ordinary()
	h.Words[32] = word(api.Filler, 39, 0)
	if hd, e := At(h, address(2, 0)); hd != (api.Header{Length: 39}) || e != api.OK {
		t.Errorf("At of a Filler: %v, error %d", hd, e)
	}
	if hd, e := Get(h, address(2, 0)); hd != (api.Header{}) || e != api.ErrKind {
		t.Errorf("Get of a Filler: %v, error %d", hd, e)
	}
}

// 5.1: nothing depends on a page's Space and Pins or on the heap's Space and
// Bump, and objects on a SmallPage need not be small.
func TestAtWhateverElseTheHeapSays(t *testing.T) {
	for space := range 2 {
		h := heapOf(conf, []api.Page{{Kind: api.SmallPage, Space: 1, Used: 16, Pins: math.MaxInt32}, {Kind: api.SmallPage}}, 0)
		h.Words[0], h.Space, h.Bump = word(api.Words, 15, 0), space, 1
		if hd, e := At(h, 4096); hd != (api.Header{Kind: api.Words, Length: 15}) || e != api.OK {
			t.Errorf("Space %d: %v, error %d", space, hd, e)
		}
		checkHeap(t, h)
	}
}

// 5.3: the edge cases, written out.
func TestFieldAtTheLimits(t *testing.T) {
	h := ordinary()
	for _, x := range []struct {
		addr uint64
		i    int
		want uint64
		e    api.Errno
	}{
		{4096, math.MinInt, 0, api.ErrRange}, {4096, -1, 0, api.ErrRange},
		{4096, 0, 4004, api.OK}, {4096, 1, 4008, api.OK}, {4096, 2, 4012, api.OK},
		{4096, 3, 0, api.ErrRange}, {4096, 4, 0, api.ErrRange}, {4096, math.MaxInt, 0, api.ErrRange},
		{address(0, 9), -1, 0, api.ErrRange}, {address(0, 9), 0, 0, api.ErrRange}, {address(0, 9), 1, 0, api.ErrRange},
		{address(0, 12), 2, 4060, api.OK}, {address(0, 12), 3, 0, api.ErrRange},
		{address(2, 0), 14, 4188, api.OK}, {address(2, 0), 15, word(api.Words, 39, 0), api.OK}, {address(2, 0), 16, 4196, api.OK},
		{address(2, 0), 37, 4280, api.OK}, {address(2, 0), 38, word(api.Words, 0, 0), api.OK}, {address(2, 0), 39, 0, api.ErrRange},
		{address(6, 0), 0, 4388, api.OK}, {address(6, 0), 15, word(api.Refs, 0, 0), api.OK}, {address(6, 0), 16, 0, api.ErrRange},
		// The error of Get comes first.
		{0, 0, 0, api.ErrNull}, {0, -1, 0, api.ErrNull},
		{4095, 0, 0, api.ErrRange}, {4224, 0, 0, api.ErrRange},
		{address(0, 7), 0, 0, api.ErrKind}, {address(0, 7), 1, 0, api.ErrKind}, {address(0, 11), 0, 0, api.ErrKind},
		{address(1, 5), 0, 0, api.ErrCorrupt}, {address(1, 5), -1, 0, api.ErrCorrupt}, {address(5, 0), 0, 0, api.ErrCorrupt},
	} {
		if got, e := Field(h, x.addr, x.i); got != x.want || e != x.e {
			t.Errorf("Field %d of %d: %d, error %d", x.i, x.addr, got, e)
		}
		want := api.Heap{}
		if x.e == api.OK {
			want = ordinary()
			want.Words[x.addr-4096+1+uint64(x.i)] = math.MaxUint64
		}
		if got, e := SetField(h, x.addr, x.i, math.MaxUint64); !sameHeap(got, want) || e != x.e {
			t.Errorf("SetField %d of %d: error %d, or another heap", x.i, x.addr, e)
		}
	}
}

// 5.3: the edge cases, written out.
func TestFieldsAndExtentAtTheLimits(t *testing.T) {
	h := ordinary()
	for _, x := range []struct {
		addr     uint64
		want     []uint64
		from, to uint64
		e        api.Errno
	}{
		{4096, []uint64{4004, 4008, 4012}, 4097, 4100, api.OK},
		{address(0, 4), []uint64{4020, 4024}, 4101, 4103, api.OK},
		{address(0, 9), nil, 4106, 4106, api.OK},
		{address(0, 10), nil, 4107, 4107, api.OK},
		{address(1, 3), h.Words[20:23], 4116, 4119, api.OK},
		{address(2, 0), h.Words[33:72], 4129, 4168, api.OK},
		{address(6, 0), h.Words[97:113], 4193, 4209, api.OK},
		{0, nil, 0, 0, api.ErrNull},
		{4095, nil, 0, 0, api.ErrRange},
		{4224, nil, 0, 0, api.ErrRange},
		{address(0, 7), nil, 0, 0, api.ErrKind},
		{address(3, 0), nil, 0, 0, api.ErrCorrupt},
	} {
		if got, e := Fields(h, x.addr); !slices.Equal(got, x.want) || e != x.e {
			t.Errorf("Fields of %d: %v, error %d", x.addr, got, e)
		}
		if from, to, e := Extent(h, x.addr); from != x.from || to != x.to || e != x.e {
			t.Errorf("Extent of %d: %d to %d, error %d", x.addr, from, to, e)
		}
	}
}

// 5.3: SetField stores every value in every kind of field.
func TestSetFieldOfAnyValue(t *testing.T) {
	for _, v := range []uint64{0, 1, 61, 4096, 1 << 63, math.MaxUint64} {
		for _, addr := range []uint64{4096, address(0, 4), address(0, 12), address(2, 0)} {
			h, e := SetField(ordinary(), addr, 1, v)
			if got, fieldE := Field(h, addr, 1); got != v || e != api.OK || fieldE != api.OK {
				t.Errorf("field 1 of %d is %d, errors %d and %d, want %d", addr, got, e, fieldE, v)
			}
		}
	}
}

// 5.1 to 5.3: the greatest heap, with an object of the greatest Length at its
// end.
func TestGreatestObject(t *testing.T) {
	c := api.Conf{PageWords: 64, Pages: 64}
	pages := make([]api.Page, 64)
	pages[60] = api.Page{Kind: api.LargePage, Used: 256}
	for i := 61; i < 64; i++ {
		pages[i].Kind = api.TailPage
	}
	h := heapOf(c, pages, 0)
	h.Words[60*64], h.Words[60*64+1], h.Words[4095] = word(api.Refs, 255, 0), 11, 22
	addr := uint64(4096 + 60*64)
	if hd, e := Get(h, addr); hd != (api.Header{Kind: api.Refs, Length: 255}) || e != api.OK {
		t.Errorf("Get: %v, error %d", hd, e)
	}
	for i, want := range map[int]uint64{0: 11, 1: 0, 253: 0, 254: 22} {
		if got, e := Field(h, addr, i); got != want || e != api.OK {
			t.Errorf("Field %d: %d, error %d, want %d", i, got, e, want)
		}
	}
	for _, i := range []int{-1, 255, 256} {
		if got, e := Field(h, addr, i); got != 0 || e != api.ErrRange {
			t.Errorf("Field %d: %d, error %d", i, got, e)
		}
	}
	checkHeap(t, h)
}

// initHeaders are valid headers and others.
var initHeaders = []api.Header{
	{}, {Length: 1}, {Length: 255},
	{Kind: api.Record}, {Kind: api.Record, Length: 1, Map: 1}, {Kind: api.Record, Length: 32, Map: math.MaxUint32},
	{Kind: api.Refs}, {Kind: api.Refs, Length: 3}, {Kind: api.Refs, Length: 127}, {Kind: api.Refs, Length: 128},
	{Kind: api.Words}, {Kind: api.Words, Length: 63}, {Kind: api.Words, Length: 126}, {Kind: api.Words, Length: 255},
	{Kind: -1}, {Kind: 4}, {Kind: 1 << 32}, {Length: -1}, {Length: 256}, {Map: 1},
	{Kind: api.Record, Length: 33}, {Kind: api.Record, Length: 2, Map: 4}, {Kind: api.Refs, Length: 2, Map: 1},
	{Kind: api.Words, Length: 256}, {Kind: api.Words, Length: -1}, {Kind: api.Words, Length: math.MaxInt}, {Kind: api.Words, Length: math.MinInt},
}

// modelInit is the chapter's definition of Init in a proper heap.
func modelInit(h api.Heap, addr uint64, hd api.Header) (api.Heap, api.Errno) {
	if !header.Valid(hd) {
		return api.Heap{}, api.ErrArg
	}
	words := slices.Clone(h.Words)
	for i := range hd.Length + 1 {
		a := addr + uint64(i)
		if a < 4096 || a > 4095+uint64(len(words)) {
			return api.Heap{}, api.ErrRange
		}
		words[a-4096] = 0
	}
	words[addr-4096] = word(hd.Kind, hd.Length, hd.Map)
	h.Words = words
	return h, api.OK
}

// 5.4: at every address, whatever is there.
func TestInit(t *testing.T) {
	for _, h := range []api.Heap{ordinary(), heapOf(conf, nil, math.MaxUint64)} {
		before := snapshot(h)
		for _, addr := range addresses(h) {
			for _, hd := range initHeaders {
				want, wantE := modelInit(h, addr, hd)
				if got, e := Init(h, addr, hd); !sameHeap(got, want) || e != wantE {
					t.Fatalf("Init of %v at %d: error %d, want %d, or another heap", hd, addr, e, wantE)
				}
			}
		}
		checkUnchanged(t, h, before)
	}
}

// 5.4: the edge cases, written out.
func TestInitAtTheLimits(t *testing.T) {
	words := func(n int) api.Header { return api.Header{Kind: api.Words, Length: n} }
	for _, x := range []struct {
		addr uint64
		hd   api.Header
		e    api.Errno
	}{
		{4096, words(0), api.OK}, {4096, words(127), api.OK}, {4096, words(128), api.ErrRange},
		{4095, words(0), api.ErrRange}, {4095, words(3), api.ErrRange}, {0, words(0), api.ErrRange},
		{4223, words(0), api.OK}, {4223, words(1), api.ErrRange}, {4224, words(0), api.ErrRange},
		{4220, words(3), api.OK}, {4220, words(4), api.ErrRange},
		{math.MaxUint64, words(0), api.ErrRange}, {math.MaxUint64 - 2, words(4), api.ErrRange}, {math.MaxUint64, words(255), api.ErrRange},
		{4096, api.Header{}, api.OK}, {4096, words(256), api.ErrArg}, {4096, words(-1), api.ErrArg},
		// ErrArg comes before ErrRange.
		{0, words(-1), api.ErrArg}, {4095, words(256), api.ErrArg}, {4224, api.Header{Kind: 4}, api.ErrArg},
	} {
		got, e := Init(ordinary(), x.addr, x.hd)
		if e != x.e || e != api.OK && !sameHeap(got, api.Heap{}) {
			t.Errorf("Init of %v at %d: error %d, want %d", x.hd, x.addr, e, x.e)
		}
	}
	h, e := Init(ordinary(), 4220, words(3))
	want := ordinary()
	copy(want.Words[124:], []uint64{61, 0, 0, 0})
	if !sameHeap(h, want) || e != api.OK {
		t.Errorf("Init up to the last word: error %d, or another heap", e)
	}
}

// improper returns heaps that are not proper, each for another reason.
func improper() []api.Heap {
	l := []api.Heap{{}, {Bump: -1}}
	for _, change := range []func(h *api.Heap){
		func(h *api.Heap) { h.Conf = api.Conf{} },
		func(h *api.Heap) { h.Conf.PageWords = 17 },
		func(h *api.Heap) { h.Conf.PageWords = 20 },
		func(h *api.Heap) { h.Conf.Pages = 7 },
		func(h *api.Heap) { h.Conf.Pages = 9 },
		func(h *api.Heap) { h.Words = nil },
		func(h *api.Heap) { h.Words = h.Words[:127] },
		func(h *api.Heap) { h.Words = h.Words[:129] },
		func(h *api.Heap) { h.Pages = nil },
		func(h *api.Heap) { h.Pages = h.Pages[:7] },
		func(h *api.Heap) { h.Pages = h.Pages[:9] },
		func(h *api.Heap) { h.Space = 2 },
		func(h *api.Heap) { h.Space = -1 },
		func(h *api.Heap) { h.Bump = -2 },
		func(h *api.Heap) { h.Bump = 2 },
		func(h *api.Heap) { h.Bump = 8 },
		func(h *api.Heap) { h.Pages[0].Kind = 4 },
		func(h *api.Heap) { h.Pages[0].Used = 17 },
		func(h *api.Heap) { h.Pages[1].Pins = -1 },
		func(h *api.Heap) { h.Pages[2].Used = 65 },
		func(h *api.Heap) { h.Pages[2].Used = 4 },
		func(h *api.Heap) { h.Pages[4] = api.Page{} },
		func(h *api.Heap) { h.Pages[5].Used = 1 },
		func(h *api.Heap) { h.Pages[7].Space = 0 },
	} {
		h := ordinary()
		change(&h)
		l = append(l, h)
	}
	return l
}

// 5.1 to 5.4: a heap that is not proper is the first error of all.
func TestImproperHeaps(t *testing.T) {
	for k, h := range improper() {
		before := snapshot(h)
		for _, addr := range []uint64{0, 4095, 4096, address(0, 1), address(0, 4), address(0, 7), address(2, 0), address(5, 0), 4224, math.MaxUint64} {
			if hd, e := At(h, addr); hd != (api.Header{}) || e != api.ErrArg {
				t.Errorf("heap %d, At of %d: %v, error %d", k, addr, hd, e)
			}
			if hd, e := Get(h, addr); hd != (api.Header{}) || e != api.ErrArg {
				t.Errorf("heap %d, Get of %d: %v, error %d", k, addr, hd, e)
			}
			checkFields(t, h, addr, api.Header{}, api.ErrArg)
			for _, i := range []int{-1, 0, 1, 1000} {
				checkField(t, h, addr, i, api.Header{}, api.ErrArg)
			}
			for _, hd := range initHeaders {
				if got, e := Init(h, addr, hd); !sameHeap(got, api.Heap{}) || e != api.ErrArg {
					t.Errorf("heap %d, Init of %v at %d: error %d", k, hd, addr, e)
				}
			}
		}
		checkUnchanged(t, h, before)
	}
}

// R4: nothing that is done to a result can be seen in an argument.
func TestResultsAreNewMemory(t *testing.T) {
	h := ordinary()
	before := snapshot(h)
	set, _ := SetField(h, 4096, 0, 5)
	made, _ := Init(h, 4096, api.Header{Kind: api.Words, Length: 2})
	for _, result := range []api.Heap{set, made} {
		clear(result.Words[:cap(result.Words)])
		clear(result.Pages[:cap(result.Pages)])
	}
	l, _ := Fields(h, 4096)
	clear(l[:cap(l)])
	checkUnchanged(t, h, before)
}

// All calls together: an object is made, filled and read.
func TestObjectFromTheStart(t *testing.T) {
	h, _ := page.New(conf)
	h.Pages, _ = page.Small(h.Pages, 2, 0)
	hd := api.Header{Kind: api.Record, Length: 3, Map: 5}
	addr := address(2, 0)
	h, e := Init(h, addr, hd)
	if got, getE := Get(h, addr); e != api.OK || got != (api.Header{}) || getE != api.ErrCorrupt {
		t.Errorf("before its words are used: %v, errors %d and %d", got, e, getE)
	}
	h.Pages[2].Used = 4
	for i := range 3 {
		if h, e = SetField(h, addr, i, uint64(10+i)); e != api.OK {
			t.Errorf("SetField %d: error %d", i, e)
		}
	}
	got, getE := Get(h, addr)
	l, e := Fields(h, addr)
	if got != hd || getE != api.OK || !slices.Equal(l, []uint64{10, 11, 12}) || e != api.OK {
		t.Errorf("%v, fields %v, errors %d and %d", got, l, getE, e)
	}
}

func TestExamples(t *testing.T) {
	h := ordinary()
	if hd, e := Get(h, 0); hd != (api.Header{}) || e != api.ErrNull {
		t.Errorf("Get of address 0: %v, error %d", hd, e)
	}
	if hd, e := At(h, address(5, 0)); hd != (api.Header{}) || e != api.ErrCorrupt {
		t.Errorf("At on a FreePage: %v, error %d", hd, e)
	}
	if v, e := Field(h, address(0, 9), 0); v != 0 || e != api.ErrRange {
		t.Errorf("Field 0 of an object of Length 0: %d, error %d", v, e)
	}
}
