package alloc

import (
	"math"
	"slices"
	"testing"

	"semispace/api"
	"semispace/header"
	"semispace/object"
	"semispace/page"
	"semispace/walk"
)

func filler(n int) api.Header { return api.Header{Length: n} }
func words(n int) api.Header  { return api.Header{Kind: api.Words, Length: n} }
func refs(n int) api.Header   { return api.Header{Kind: api.Refs, Length: n} }

func record(n int, m uint32) api.Header {
	return api.Header{Kind: api.Record, Length: n, Map: m}
}

func small(space, used int) api.Page { return api.Page{Kind: api.SmallPage, Space: space, Used: used} }
func large(space, used int) api.Page { return api.Page{Kind: api.LargePage, Space: space, Used: used} }
func tail(space int) api.Page        { return api.Page{Kind: api.TailPage, Space: space} }

// word is the word of a header, in numbers instead of bits.
func word(hd api.Header) uint64 {
	return 1 + 4*uint64(hd.Kind) + 16*uint64(hd.Length) + 65536*uint64(hd.Map)
}

// conf has a Limit of 2 and roomy one of 8 pages. In both, a small object has
// at most 4 words, and a page 16.
var (
	conf  = api.Conf{PageWords: 16, Pages: 8}
	roomy = api.Conf{PageWords: 16, Pages: 32}
)

// heapOf returns a heap with these pages, the ones behind them free. No word
// is 0, and the memory behind its slices contains marks, which must stay.
func heapOf(c api.Conf, space, bump int, pages ...api.Page) api.Heap {
	n := c.PageWords * c.Pages
	h := api.Heap{Conf: c, Words: make([]uint64, n+3), Pages: make([]api.Page, c.Pages+2), Space: space, Bump: bump}
	for i := range h.Words {
		h.Words[i] = 1000000 + uint64(i)
	}
	copy(h.Pages, pages)
	h.Pages[c.Pages].Kind, h.Pages[c.Pages+1].Kind = 77, 77
	h.Words, h.Pages = h.Words[:n], h.Pages[:c.Pages]
	return h
}

// sameHeap reports whether two heaps are equal.
func sameHeap(a, b api.Heap) bool {
	return a.Conf == b.Conf && slices.Equal(a.Words, b.Words) && slices.Equal(a.Pages, b.Pages) && a.Space == b.Space && a.Bump == b.Bump
}

// snapshot returns a copy of a heap and of the memory behind its slices.
func snapshot(h api.Heap) api.Heap {
	h.Words = slices.Clone(h.Words[:cap(h.Words)])
	h.Pages = slices.Clone(h.Pages[:cap(h.Pages)])
	return h
}

// checkUnchanged fails if a heap is not as it was before.
func checkUnchanged(t *testing.T, h, before api.Heap) {
	t.Helper()
	if !sameHeap(snapshot(h), before) {
		t.Fatal("the argument has changed")
	}
}

// numbers is a sequence of numbers that look irregular, the same ones in each
// run.
type numbers uint64

// below returns a number from 0 to n-1.
func (x *numbers) below(n int) int {
	*x ^= *x << 13
	*x ^= *x >> 7
	*x ^= *x << 17
	return int(uint64(*x) % uint64(n))
}

// modelAsks is the chapter's definition of Asks in numbers.
func modelAsks(c api.Conf, hd api.Header) bool {
	if c.PageWords < 16 || c.PageWords > 64 || c.PageWords%4 != 0 || c.Pages < 8 || c.Pages > 64 {
		return false
	}
	if hd.Length < 0 || hd.Length+1 > 4*c.PageWords {
		return false
	}
	switch hd.Kind {
	case 1:
		return hd.Length <= 32 && uint64(hd.Map) < 1<<hd.Length
	case 2, 3:
		return hd.Length <= 255 && hd.Map == 0
	}
	return false
}

// modelNew is the chapter's definition of New in a proper heap.
func modelNew(h api.Heap, hd api.Header) (api.Heap, uint64, api.Errno) {
	if !modelAsks(h.Conf, hd) {
		return api.Heap{}, 0, api.ErrArg
	}
	n, size := hd.Length+1, h.Conf.PageWords
	h.Words, h.Pages = slices.Clone(h.Words), slices.Clone(h.Pages)
	at := -1
	if 4*n > size {
		at = modelLarge(h, (n+size-1)/size, n)
	} else {
		at = modelSmall(&h, n)
	}
	if at < 0 {
		return api.Heap{}, 0, api.ErrMemory
	}
	clear(h.Words[at : at+n])
	h.Words[at] = word(hd)
	return h, 4096 + uint64(at), api.OK
}

// inUse returns how many of these pages are not free.
func inUse(pages []api.Page) int {
	n := len(pages)
	for _, p := range pages {
		if p.Kind == 0 {
			n--
		}
	}
	return n
}

// modelSmall changes the pages for a small object and returns the index of its
// first word, or -1.
func modelSmall(h *api.Heap, n int) int {
	limit, used := h.Conf.Pages/4, inUse(h.Pages)
	if i := h.Bump; i >= 0 && h.Pages[i].Space == h.Space && h.Pages[i].Used <= h.Conf.PageWords-n && used < limit+1 {
		h.Pages[i].Used += n
		return i*h.Conf.PageWords + h.Pages[i].Used - n
	}
	for i, p := range h.Pages {
		if p.Kind == 0 && used < limit {
			h.Pages[i], h.Bump = small(h.Space, n), i
			return i * h.Conf.PageWords
		}
	}
	return -1
}

// modelLarge changes the pages for a large object of k pages and returns the
// index of its first word, or -1.
func modelLarge(h api.Heap, k, n int) int {
	for i := 0; i+k <= len(h.Pages) && inUse(h.Pages)+k < h.Conf.Pages/4+1; i++ {
		if inUse(h.Pages[i:i+k]) == 0 {
			for j := range k {
				h.Pages[i+j] = tail(h.Space)
			}
			h.Pages[i] = large(h.Space, n)
			return i * h.Conf.PageWords
		}
	}
	return -1
}

// checkNew compares New, Would and Room with the model, for a proper heap.
func checkNew(t *testing.T, h api.Heap, hd api.Header) (api.Heap, uint64, api.Errno) {
	t.Helper()
	before := snapshot(h)
	want, wantAddr, wantE := modelNew(h, hd)
	got, addr, e := New(h, hd)
	if !sameHeap(got, want) || addr != wantAddr || e != wantE {
		t.Fatalf("New of %v in a heap of %v, Space %d, Bump %d, pages %v: address %d, error %d, want %d, error %d, or another heap, pages %v",
			hd, h.Conf, h.Space, h.Bump, h.Pages, addr, e, wantAddr, wantE, got.Pages)
	}
	if Would(h, hd) != (wantE == api.OK) {
		t.Fatalf("Would of %v in a heap of %v, Space %d, Bump %d, pages %v: %t", hd, h.Conf, h.Space, h.Bump, h.Pages, !(wantE == api.OK))
	}
	room := 0
	if h.Bump >= 0 {
		room = h.Conf.PageWords - h.Pages[h.Bump].Used
	}
	if got := Room(h); got != room {
		t.Fatalf("Room of Bump %d, pages %v: %d, want %d", h.Bump, h.Pages, got, room)
	}
	checkUnchanged(t, h, before)
	return got, addr, e
}

// confs are valid configurations, those at the limits among them, and invalid
// ones.
var confs = []api.Conf{
	{PageWords: 16, Pages: 8}, {PageWords: 16, Pages: 64}, {PageWords: 64, Pages: 8}, {PageWords: 64, Pages: 64},
	{PageWords: 20, Pages: 9}, {PageWords: 60, Pages: 63}, {PageWords: 32, Pages: 11},
	{}, {PageWords: 12, Pages: 8}, {PageWords: 15, Pages: 8}, {PageWords: 17, Pages: 8}, {PageWords: 18, Pages: 8}, {PageWords: 68, Pages: 8},
	{PageWords: 65, Pages: 8}, {PageWords: 16, Pages: 7}, {PageWords: 16, Pages: 65}, {PageWords: -16, Pages: 8}, {PageWords: 16, Pages: -8},
	{PageWords: math.MaxInt, Pages: math.MaxInt}, {PageWords: math.MinInt, Pages: 8}, {PageWords: 1<<32 + 16, Pages: 8}, {PageWords: 16, Pages: 1<<32 + 8},
}

// 7.1: all lengths of all kinds, and others.
func TestAsks(t *testing.T) {
	lengths := []int{math.MinInt, -1 << 32, 1 << 32, 1<<32 + 1, 1<<63 - 2, math.MaxInt}
	for n := -3; n < 300; n++ {
		lengths = append(lengths, n)
	}
	for _, c := range confs {
		for _, kind := range []int{math.MinInt, -1, 0, 1, 2, 3, 4, 1<<32 + 1, math.MaxInt} {
			for _, n := range lengths {
				for _, m := range []uint32{0, 1, 2, 1<<uint(n&31) - 1, 1 << uint(n&31), math.MaxUint32} {
					hd := api.Header{Kind: kind, Length: n, Map: m}
					if got := Asks(c, hd); got != modelAsks(c, hd) {
						t.Fatalf("Asks of %v and %v: %t", c, hd, got)
					}
				}
			}
		}
	}
}

// 7.1: the edge cases, written out.
func TestAsksAtTheLimits(t *testing.T) {
	wide := api.Conf{PageWords: 64, Pages: 64}
	for _, x := range []struct {
		c    api.Conf
		hd   api.Header
		want bool
	}{
		{conf, words(0), true}, {conf, words(3), true}, {conf, words(4), true}, {conf, words(63), true}, {conf, words(64), false},
		{conf, refs(0), true}, {conf, refs(63), true}, {conf, refs(64), false}, {conf, refs(255), false},
		{wide, words(255), true}, {wide, words(256), false}, {wide, refs(255), true}, {wide, refs(256), false},
		{api.Conf{PageWords: 60, Pages: 8}, words(239), true}, {api.Conf{PageWords: 60, Pages: 8}, words(240), false},
		{conf, record(0, 0), true}, {conf, record(0, 1), false}, {conf, record(3, 7), true}, {conf, record(3, 8), false},
		{conf, record(32, math.MaxUint32), true}, {wide, record(33, 0), false},
		{conf, words(-1), false}, {conf, refs(-1), false}, {conf, record(-1, 0), false},
		{conf, api.Header{Kind: api.Words, Length: 2, Map: 1}, false}, {conf, api.Header{Kind: api.Refs, Length: 2, Map: 1}, false},
		// Fillers are valid headers, but nobody can ask for them.
		{conf, filler(0), false}, {conf, filler(3), false}, {wide, filler(63), false}, {wide, filler(255), false}, {conf, filler(-1), false},
		{conf, api.Header{Kind: -1}, false}, {conf, api.Header{Kind: 4, Length: 3}, false},
		{api.Conf{}, words(0), false}, {api.Conf{PageWords: 18, Pages: 8}, words(0), false}, {api.Conf{PageWords: 16, Pages: 7}, words(0), false},
		{api.Conf{PageWords: 16, Pages: 65}, words(0), false}, {api.Conf{PageWords: 68, Pages: 64}, words(0), false},
	} {
		if got := Asks(x.c, x.hd); got != x.want {
			t.Errorf("Asks of %v and %v: %t", x.c, x.hd, got)
		}
	}
}

// someHeaders are headers of small and large objects with each number of pages
// in a page of 16 words, and ones that cannot be asked for.
var someHeaders = []api.Header{
	words(0), refs(1), record(2, 2), words(3), refs(3), record(3, 5), // small
	words(4), refs(15), words(16), record(31, 9), refs(32), words(47), refs(48), words(63), // large
	words(64), refs(255), words(-1), record(2, 4), filler(0), filler(3), {Kind: 4},
}

// bumps are the numbers of all SmallPages, and -1.
func bumps(pages []api.Page) []int {
	l := []int{-1}
	for i, p := range pages {
		if p.Kind == api.SmallPage {
			l = append(l, i)
		}
	}
	return l
}

// checkTable checks New in heaps with these pages, each Space and each Bump.
func checkTable(t *testing.T, c api.Conf, pages ...api.Page) {
	t.Helper()
	for space := range 2 {
		for _, bump := range bumps(pages) {
			h := heapOf(c, space, bump, pages...)
			if !page.Proper(h) {
				t.Fatal("a heap of the tests is not proper")
			}
			for _, hd := range someHeaders {
				checkNew(t, h, hd)
			}
		}
	}
}

// 7.2 and 7.3: all Used of one page, and of one after others.
func TestNewAtEachUsed(t *testing.T) {
	for used := range 17 {
		checkTable(t, conf, small(0, used))
		checkTable(t, conf, api.Page{}, small(1, used))
		checkTable(t, conf, small(0, 16), small(0, used))
		checkTable(t, conf, small(1, used), api.Page{}, large(0, 5))
		checkTable(t, conf, large(0, 17), tail(0), small(0, used))
		checkTable(t, roomy, small(0, 16), api.Page{}, small(1, 3), large(0, 16), small(0, used))
	}
}

// 7.2: as many pages in use as there are, with and without room on a page.
func TestNewAtEachNumberOfPages(t *testing.T) {
	for _, c := range []api.Conf{conf, {PageWords: 16, Pages: 11}, {PageWords: 16, Pages: 16}} {
		for n := range c.Pages + 1 {
			for _, used := range []int{0, 12, 13, 16} {
				pages := slices.Repeat([]api.Page{small(0, used)}, n)
				checkTable(t, c, pages...)
				// The free pages are in front and in the middle.
				checkTable(t, c, append(make([]api.Page, c.Pages-n), pages...)...)
				checkTable(t, c, slices.Concat(pages[n/2:], make([]api.Page, c.Pages-n), pages[:n/2])...)
			}
		}
	}
}

// 7.2: all tables in which 10 pages are free or not: the first run that is
// long enough is taken.
func TestNewInEachRun(t *testing.T) {
	c := api.Conf{PageWords: 16, Pages: 64}
	for set := range 1 << 10 {
		pages := make([]api.Page, 10)
		for i := range pages {
			if set>>i&1 == 1 {
				pages[i] = small(set%2, 14)
			}
		}
		h := heapOf(c, 0, bumps(pages)[len(bumps(pages))/2], pages...)
		for _, hd := range []api.Header{words(1), words(2), words(4), refs(16), words(40), refs(63)} {
			checkNew(t, h, hd)
		}
	}
}

// 7.2: what is on the pages, written out. The Limit of roomy is 8 pages.
func TestNewWrittenOut(t *testing.T) {
	full, none := small(0, 16), api.Page{}
	eight, seven := slices.Repeat([]api.Page{full}, 8), slices.Repeat([]api.Page{full}, 7)
	for _, x := range []struct {
		name        string
		space, bump int
		pages       []api.Page
		hd          api.Header
		addr        uint64 // 0 for ErrMemory
		page        api.Page
		newBump     int
	}{
		{"no Bump", 0, -1, nil, words(3), 4096, small(0, 4), 0},
		{"no Bump, Space 1", 1, -1, nil, words(0), 4096, small(1, 1), 0},
		{"no Bump, but a page with room", 0, -1, []api.Page{small(0, 0)}, words(0), 4112, small(0, 1), 1},
		{"behind what is used", 0, 0, []api.Page{small(0, 4)}, record(2, 1), 4100, small(0, 7), 0},
		{"up to the end of the page", 0, 0, []api.Page{small(0, 12)}, words(3), 4108, small(0, 16), 0},
		{"a word too much for the page", 0, 0, []api.Page{small(0, 13)}, words(3), 4112, small(0, 4), 1},
		{"one word left", 0, 0, []api.Page{small(0, 15)}, refs(0), 4111, small(0, 16), 0},
		{"no word left", 0, 0, []api.Page{full}, refs(0), 4112, small(0, 1), 1},
		{"Bump in the other space", 1, 0, []api.Page{small(0, 0)}, words(1), 4112, small(1, 2), 1},
		{"Bump behind free pages", 0, 2, []api.Page{none, none, small(0, 5)}, words(1), 4133, small(0, 7), 2},
		{"the first free page is before Bump", 0, 2, []api.Page{small(0, 0), none, full}, words(1), 4112, small(0, 2), 1},
		{"pins of Bump stay", 0, 0, []api.Page{{Kind: api.SmallPage, Used: 1, Pins: 9}}, words(0), 4097, api.Page{Kind: api.SmallPage, Used: 2, Pins: 9}, 0},

		{"small, Limit reached by a new page", 0, 6, seven, words(0), 4208, small(0, 1), 7},
		{"small, Limit reached before", 0, 7, eight, words(0), 0, none, 0},
		{"small, Limit reached before, no Bump", 0, -1, eight, words(0), 0, none, 0},
		{"small, Limit reached before, room on Bump", 0, 7, slices.Concat(seven, []api.Page{small(0, 12)}), words(3), 4220, small(0, 16), 7},
		{"small, Limit reached before, too little room", 0, 7, slices.Concat(seven, []api.Page{small(0, 13)}), words(3), 0, none, 0},
		{"small, Limit reached before, Bump in the other space", 1, 7, slices.Concat(seven, []api.Page{small(0, 0)}), words(0), 0, none, 0},
		{"small, a page too many, room on Bump", 0, 8, slices.Concat(eight, []api.Page{small(0, 0)}), words(0), 0, none, 0},

		{"large of a page", 0, -1, nil, words(4), 4096, large(0, 5), -1},
		{"large, Space 1", 1, -1, nil, refs(63), 4096, large(1, 64), -1},
		{"large, room on Bump", 0, 0, []api.Page{small(0, 1)}, words(4), 4112, large(0, 5), 0},
		{"large, first run too short", 0, 1, []api.Page{none, full, none, none, full}, words(32), 4176, large(0, 33), 1},
		{"large, first run long enough", 0, 1, []api.Page{none, full, none, none, full}, words(31), 4128, large(0, 32), 1},
		{"large of a page, first run", 0, 1, []api.Page{none, full, none, none, full}, words(15), 4096, large(0, 16), 1},
		{"large, Limit reached by a page", 0, 6, seven, words(15), 4208, large(0, 16), 6},
		{"large, a page too many", 0, 6, seven, words(16), 0, none, 0},
		{"large, Limit reached before", 0, 7, eight, words(4), 0, none, 0},
		{"large, Limit reached by four pages", 0, 3, seven[:4], words(63), 4160, large(0, 64), 3},
		{"large, four pages are a page too many", 0, 4, seven[:5], words(63), 0, none, 0},
	} {
		h, addr, e := New(heapOf(roomy, x.space, x.bump, x.pages...), x.hd)
		if x.addr == 0 {
			if !sameHeap(h, api.Heap{}) || addr != 0 || e != api.ErrMemory {
				t.Errorf("%s: address %d, error %d", x.name, addr, e)
			}
			continue
		}
		if e != api.OK || addr != x.addr {
			t.Errorf("%s: address %d, error %d", x.name, addr, e)
		} else if got := h.Pages[(addr-4096)/16]; got != x.page || h.Bump != x.newBump || h.Space != x.space {
			t.Errorf("%s: page %v, Bump %d, Space %d", x.name, got, h.Bump, h.Space)
		}
	}
}

// 7.2: the TailPages of large objects, and nothing else.
func TestPagesOfLargeObjects(t *testing.T) {
	for n := 5; n <= 64; n++ {
		k := (n + 15) / 16
		h, addr, e := New(heapOf(roomy, 1, 1, api.Page{}, small(0, 7), api.Page{}), words(n-1))
		want := make([]api.Page, 32)
		want[1] = small(0, 7)
		at := 2
		if k == 1 {
			at = 0
		}
		for i := range k {
			want[at+i] = tail(1)
		}
		want[at] = large(1, n)
		if addr != 4096+16*uint64(at) || e != api.OK || !slices.Equal(h.Pages, want) || h.Bump != 1 {
			t.Errorf("%d words: address %d, error %d, pages %v, Bump %d", n, addr, e, h.Pages, h.Bump)
		}
	}
}

// 7.2: no free page is left, which is more than the Limit; nothing fits.
func TestNewWithoutFreePages(t *testing.T) {
	for bump := -1; bump < 8; bump++ {
		h := heapOf(conf, 0, bump, slices.Repeat([]api.Page{small(0, 0)}, 8)...)
		for _, hd := range []api.Header{words(0), words(3), words(4), refs(63)} {
			if got, addr, e := New(h, hd); !sameHeap(got, api.Heap{}) || addr != 0 || e != api.ErrMemory {
				t.Errorf("New of %v, Bump %d: address %d, error %d", hd, bump, addr, e)
			}
			if Would(h, hd) {
				t.Errorf("Would of %v, Bump %d", hd, bump)
			}
		}
	}
}

// 7.2: the words of an object are its header and 0, whatever they were; all
// others stay, those behind a large object, too.
func TestWordsOfNewObjects(t *testing.T) {
	for _, hd := range []api.Header{words(0), refs(3), record(3, 6), words(4), refs(20), words(40), words(63)} {
		before := heapOf(roomy, 0, 1, large(0, 7), small(0, 9))
		h, addr, e := New(before, hd)
		if got, getE := object.Get(h, addr); e != api.OK || got != hd || getE != api.OK {
			t.Fatalf("%v: header %v, errors %d and %d", hd, got, e, getE)
		}
		l, e := object.Fields(h, addr)
		if e != api.OK || !slices.Equal(l, make([]uint64, hd.Length)) {
			t.Errorf("%v: fields %v, error %d", hd, l, e)
		}
		for i, w := range h.Words {
			if at := 4096 + uint64(i); (at < addr || at > addr+uint64(hd.Length)) && w != before.Words[i] {
				t.Errorf("%v at %d: the word at %d has changed", hd, addr, at)
			}
		}
	}
}

// improper returns heaps that are not proper, each for another reason.
func improper() []api.Heap {
	l := []api.Heap{{}, {Bump: -1}, {Conf: conf}, {Words: make([]uint64, 128), Pages: make([]api.Page, 8), Bump: -1}}
	for _, change := range []func(h *api.Heap){
		func(h *api.Heap) { h.Conf = api.Conf{} },
		func(h *api.Heap) { h.Conf.PageWords = 18 },
		func(h *api.Heap) { h.Conf.Pages = 9 },
		func(h *api.Heap) { h.Words = nil },
		func(h *api.Heap) { h.Words = h.Words[:127] },
		func(h *api.Heap) { h.Words = h.Words[:129] },
		func(h *api.Heap) { h.Pages = nil },
		func(h *api.Heap) { h.Pages = h.Pages[:7] },
		func(h *api.Heap) { h.Pages = h.Pages[:9] },
		func(h *api.Heap) { h.Space = 2 },
		func(h *api.Heap) { h.Space = -1 },
		func(h *api.Heap) { h.Bump = -2 },
		func(h *api.Heap) { h.Bump = 1 },
		func(h *api.Heap) { h.Bump = 8 },
		func(h *api.Heap) { h.Bump = math.MaxInt },
		func(h *api.Heap) { h.Pages[0].Kind = 4 },
		func(h *api.Heap) { h.Pages[0].Used = -1 },
		func(h *api.Heap) { h.Pages[0].Used = 17 },
		func(h *api.Heap) { h.Pages[0].Pins = -1 },
		func(h *api.Heap) { h.Pages[7] = tail(0) },
	} {
		h := heapOf(conf, 0, 0, small(0, 4))
		change(&h)
		l = append(l, h)
	}
	return l
}

// 7.2 and 7.3: a heap that is not proper is an error, whatever is asked for.
func TestImproperHeaps(t *testing.T) {
	for k, h := range improper() {
		before := snapshot(h)
		for _, hd := range someHeaders {
			if got, addr, e := New(h, hd); !sameHeap(got, api.Heap{}) || addr != 0 || e != api.ErrArg {
				t.Errorf("heap %d: New of %v: address %d, error %d", k, hd, addr, e)
			}
			if Would(h, hd) {
				t.Errorf("heap %d: Would of %v", k, hd)
			}
		}
		if got := Room(h); got != 0 {
			t.Errorf("heap %d: Room %d", k, got)
		}
		checkUnchanged(t, h, before)
	}
}

// 7.2: ErrArg comes before ErrMemory.
func TestOrderOfErrors(t *testing.T) {
	full := heapOf(conf, 0, 1, small(0, 16), small(0, 16))
	broken := heapOf(conf, 2, 1, small(0, 16), small(0, 16))
	for _, x := range []struct {
		h  api.Heap
		hd api.Header
		e  api.Errno
	}{
		{full, words(0), api.ErrMemory}, {full, words(4), api.ErrMemory}, {full, words(63), api.ErrMemory},
		{full, words(64), api.ErrArg}, {full, filler(0), api.ErrArg}, {full, filler(63), api.ErrArg}, {full, record(1, 2), api.ErrArg},
		{full, words(-1), api.ErrArg}, {full, words(math.MaxInt), api.ErrArg}, {full, words(math.MinInt), api.ErrArg},
		{broken, words(0), api.ErrArg}, {broken, words(63), api.ErrArg}, {broken, words(64), api.ErrArg}, {broken, filler(0), api.ErrArg},
	} {
		if got, addr, e := New(x.h, x.hd); !sameHeap(got, api.Heap{}) || addr != 0 || e != x.e {
			t.Errorf("New of %v: address %d, error %d, want %d", x.hd, addr, e, x.e)
		}
	}
}

// 7.3: written out.
func TestRoom(t *testing.T) {
	for _, x := range []struct {
		name string
		h    api.Heap
		want int
	}{
		{"no Bump", heapOf(conf, 0, -1), 0},
		{"no Bump, but a page with room", heapOf(conf, 0, -1, small(0, 4)), 0},
		{"nothing used", heapOf(conf, 0, 0, small(0, 0)), 16},
		{"something used", heapOf(conf, 0, 1, small(0, 16), small(0, 5)), 11},
		{"one word left", heapOf(conf, 0, 0, small(0, 15)), 1},
		{"all used", heapOf(conf, 0, 0, small(0, 16)), 0},
		{"Bump in the other space", heapOf(conf, 1, 0, small(0, 5)), 11},
		{"more pages than Limit", heapOf(conf, 0, 2, small(0, 16), small(0, 16), small(0, 3)), 13},
		{"wide pages", heapOf(api.Conf{PageWords: 64, Pages: 64}, 0, 63, append(make([]api.Page, 63), small(0, 1))...), 63},
		{"zero heap", api.Heap{}, 0},
	} {
		if got := Room(x.h); got != x.want {
			t.Errorf("%s: %d, want %d", x.name, got, x.want)
		}
	}
}

// checkObjects checks that these addresses are all objects of a heap, and that
// their words are the ones that were noted.
func checkObjects(t *testing.T, h api.Heap, noted map[uint64][]uint64) {
	t.Helper()
	l, e := walk.Objects(h)
	if e != api.OK || len(l) != len(noted) {
		t.Fatalf("%d objects, error %d, want %d", len(l), e, len(noted))
	}
	for _, addr := range l {
		from := int(addr - 4096)
		if want := noted[addr]; want == nil || !slices.Equal(h.Words[from:from+len(want)], want) {
			t.Fatalf("the object at %d is new or has changed", addr)
		}
	}
}

// marked returns the heap with fields that are all different.
func marked(t *testing.T, h api.Heap, addr uint64, hd api.Header) api.Heap {
	t.Helper()
	for i := range hd.Length {
		var e api.Errno
		if h, e = object.SetField(h, addr, i, 2*addr+uint64(i)<<32); e != api.OK {
			t.Fatalf("SetField %d of %v at %d: error %d", i, hd, addr, e)
		}
	}
	return h
}

// asked returns the header of an object that can be asked for.
func (x *numbers) asked(c api.Conf) api.Header {
	n := x.below(c.PageWords / 4)
	if x.below(4) == 0 {
		n = x.below(4 * c.PageWords)
	}
	switch x.below(3) {
	case 0:
		n = min(n, 32)
		return record(n, uint32(x.below(1<<n)))
	case 1:
		return refs(n)
	}
	return words(n)
}

// 7.4: heaps are filled step by step, until nothing fits any more. Objects are
// never changed, and no more pages than Limit are in use.
func TestHeapsAreFilled(t *testing.T) {
	for seed := range 60 {
		x := numbers(seed + 1)
		c := api.Conf{PageWords: 16 + 4*x.below(13), Pages: 8 + x.below(57)}
		h, _ := page.New(c)
		h.Space = seed % 2
		noted := map[uint64][]uint64{}
		for failed := 0; failed < 5; {
			hd := x.asked(c)
			next, addr, e := checkNew(t, h, hd)
			if e == api.ErrMemory {
				failed++
				continue
			}
			if next.Pages[(addr-4096)/uint64(c.PageWords)].Space != h.Space || inUse(next.Pages) > c.Pages/4 || !page.Proper(next) {
				t.Fatalf("after New of %v: pages %v", hd, next.Pages)
			}
			noted[addr] = make([]uint64, hd.Length+1)
			noted[addr][0] = word(hd)
			checkObjects(t, next, noted)
			h = marked(t, next, addr, hd)
			copy(noted[addr], h.Words[addr-4096:])
		}
		if inUse(h.Pages) < c.Pages/4-3 || len(noted) < 3 {
			t.Fatalf("only %d objects on %d of %d pages", len(noted), inUse(h.Pages), c.Pages)
		}
	}
}

// 7.4: irregular heaps in which any number of pages is in use; what is on them
// stays, and an allocation leaves no more than Limit in use.
func TestNewInIrregularHeaps(t *testing.T) {
	made, full := 0, 0
	for seed := range 400 {
		x := numbers(seed + 1)
		c := api.Conf{PageWords: 16 + 4*x.below(13), Pages: 8 + x.below(57)}
		h, noted := x.irregular(c)
		for range 6 {
			hd := x.asked(c)
			next, addr, e := checkNew(t, h, hd)
			if e == api.ErrMemory {
				full++
				continue
			}
			made++
			if inUse(next.Pages) > c.Pages/4 {
				t.Fatalf("after New of %v: pages %v", hd, next.Pages)
			}
			after := map[uint64][]uint64{addr: make([]uint64, hd.Length+1)}
			after[addr][0] = word(hd)
			for a, l := range noted {
				after[a] = l
			}
			checkObjects(t, next, after)
		}
	}
	if made < 200 || full < 200 {
		t.Errorf("%d allocations had no error, %d had one", made, full)
	}
}

// irregular returns a heap of pages of both spaces, and the words of its
// objects by their addresses.
func (x *numbers) irregular(c api.Conf) (api.Heap, map[uint64][]uint64) {
	h := heapOf(c, x.below(2), -1)
	noted := map[uint64][]uint64{}
	put := func(i int, hd api.Header) {
		at := i*c.PageWords + h.Pages[i].Used
		h.Pages[i].Used += header.Size(hd)
		h.Words[at] = word(hd)
		noted[4096+uint64(at)] = slices.Clone(h.Words[at : at+header.Size(hd)])
	}
	spread := 2 + x.below(8) // the greater it is, the more pages stay free
	for i := 0; i < c.Pages; i++ {
		switch space := x.below(2); x.below(2 * spread) {
		case 0:
			h.Pages[i] = small(space, 0)
			for h.Pages[i].Used < c.PageWords && x.below(6) > 0 {
				put(i, words(x.below(min(c.PageWords/4, c.PageWords-h.Pages[i].Used))))
			}
			if x.below(2) == 0 {
				h.Bump = i
			}
		case 1:
			n := min(c.PageWords/4+1+x.below(3*c.PageWords), (c.Pages-i)*c.PageWords)
			h.Pages[i] = large(space, 0)
			put(i, words(n-1))
			for left := n - c.PageWords; left > 0; left -= c.PageWords {
				i++
				h.Pages[i] = tail(space)
			}
		}
	}
	return h, noted
}

// R4: nothing that is done to a result can be seen in an argument.
func TestResultsAreNewMemory(t *testing.T) {
	for _, hd := range []api.Header{words(3), words(20)} {
		for _, h := range []api.Heap{heapOf(roomy, 0, -1), heapOf(roomy, 0, 0, small(0, 3)), heapOf(roomy, 0, 0, small(0, 16))} {
			before := snapshot(h)
			made, _, e := New(h, hd)
			if e != api.OK {
				t.Fatalf("New of %v: error %d", hd, e)
			}
			clear(made.Words[:cap(made.Words)])
			clear(made.Pages[:cap(made.Pages)])
			checkUnchanged(t, h, before)
		}
	}
}

func TestExamples(t *testing.T) {
	empty, _ := page.New(conf)
	h, addr, e := New(empty, words(3))
	if addr != 4096 || e != api.OK || h.Bump != 0 || h.Pages[0] != small(0, 4) {
		t.Errorf("New of Words of Length 3: address %d, error %d, Bump %d, page %v", addr, e, h.Bump, h.Pages[0])
	}
	h, addr, e = New(empty, words(20))
	if addr != 4096 || e != api.OK || h.Pages[0] != large(0, 21) || h.Pages[1] != tail(0) || h.Pages[2] != (api.Page{}) {
		t.Errorf("New of Words of Length 20: address %d, error %d, pages %v", addr, e, h.Pages)
	}
	if again, addr, e := New(h, words(20)); !sameHeap(again, api.Heap{}) || addr != 0 || e != api.ErrMemory {
		t.Errorf("a second one: address %d, error %d", addr, e)
	}
}
