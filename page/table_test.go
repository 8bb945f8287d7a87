package page

import (
	"math"
	"slices"
	"testing"

	"semispace/api"
)

// The page tables of the tests are of the configuration {16, 8}, where a
// large object of 5 to 64 words has 1 to 4 pages.
var conf = api.Conf{PageWords: 16, Pages: 8}

func small(space, used, pins int) api.Page {
	return api.Page{Kind: 1, Space: space, Used: used, Pins: pins}
}
func large(space, used, pins int) api.Page {
	return api.Page{Kind: 2, Space: space, Used: used, Pins: pins}
}
func tail(space int) api.Page { return api.Page{Kind: 3, Space: space} }

// ordinary returns a proper table with each kind of page: SmallPages 0 and 7,
// LargePage 1 of three pages, FreePage 4, and LargePage 5 of two.
func ordinary() []api.Page {
	return []api.Page{small(0, 7, 2), large(1, 40, 1), tail(1), tail(1), {}, large(0, 17, 0), tail(0), small(1, 16, 0)}
}

// heapOf returns a heap with these pages.
func heapOf(pages []api.Page) api.Heap {
	return api.Heap{Conf: conf, Words: make([]uint64, 128), Pages: pages, Bump: -1}
}

// proper is the chapter's definition, read from the first page to the last:
// a LargePage takes its TailPages with it, so that one found elsewhere has none.
func proper(pages []api.Page) bool {
	for i := 0; i < len(pages); {
		p := pages[i]
		inSpace := p.Space == 0 || p.Space == 1
		pinned := p.Pins >= 0 && p.Pins <= 2147483647
		k := need(conf, p.Used)
		switch {
		case p == api.Page{}:
			i++
		case p.Kind == 1 && inSpace && p.Used >= 0 && p.Used <= 16 && pinned:
			i++
		case p.Kind == 2 && inSpace && k >= 1 && pinned:
			for range k - 1 {
				i++
				if i == len(pages) || pages[i] != tail(p.Space) {
					return false
				}
			}
			i++
		default:
			return false
		}
	}
	return true
}

// alphabet are pages of which to make tables.
var alphabet = []api.Page{
	{}, small(0, 3, 0), large(0, 5, 0), large(0, 17, 0), large(0, 33, 0), large(1, 64, 1), tail(0), tail(1),
}

// tables calls f with all tables of n pages of the alphabet.
func tables(n int, f func(pages []api.Page)) {
	pages := make([]api.Page, n)
	var fill func(i int)
	fill = func(i int) {
		if i == n {
			f(pages)
			return
		}
		for _, p := range alphabet {
			pages[i] = p
			fill(i + 1)
		}
	}
	fill(0)
}

// 4.5: all tables with five pages of the alphabet at one end.
func TestProperOfManyTables(t *testing.T) {
	count := 0
	tables(5, func(l []api.Page) {
		for _, pages := range [][]api.Page{
			slices.Concat(l, []api.Page{{}, small(1, 16, 0), {}}),
			slices.Concat([]api.Page{{}, large(0, 17, 0), tail(0)}, l),
			slices.Concat([]api.Page{{}, {}, large(1, 6, 0)}, l),
		} {
			want := proper(pages)
			if want {
				count++
			}
			if got := Proper(heapOf(pages)); got != want {
				t.Fatalf("Proper of %v: %v", pages, got)
			}
		}
	})
	if count < 500 {
		t.Errorf("only %d tables were proper", count)
	}
}

// 4.5: one page of an ordinary table is changed in one field.
func TestProperOfEachField(t *testing.T) {
	values := []int{
		math.MinInt, -1 << 32, -2, -1, 0, 1, 2, 3, 4, 5, 6, 7, 15, 16, 17, 18, 32, 33, 40, 47, 48, 49, 63, 64, 65,
		1<<31 - 2, 1<<31 - 1, 1 << 31, 1<<31 + 1, 1 << 32, 1<<32 + 1, math.MaxInt,
	}
	for i := range ordinary() {
		for _, v := range values {
			for field := range 4 {
				pages := ordinary()
				*[]*int{&pages[i].Kind, &pages[i].Space, &pages[i].Used, &pages[i].Pins}[field] = v
				if got := Proper(heapOf(pages)); got != proper(pages) {
					t.Errorf("page %d, field %d is %d: %v", i, field, v, got)
				}
			}
		}
	}
}

// 4.5: the edge cases, written out. Each table is filled up with FreePages.
func TestProperPages(t *testing.T) {
	most := math.MaxInt32
	for _, x := range []struct {
		name  string
		pages []api.Page
		want  bool
	}{
		{"ordinary", ordinary(), true},
		{"no page in use", nil, true},
		{"small, least", []api.Page{small(0, 0, 0)}, true},
		{"small, greatest", []api.Page{small(1, 16, most)}, true},
		{"large of a page, least", []api.Page{large(0, 5, 0)}, true},
		{"large of a page, greatest", []api.Page{large(1, 16, most)}, true},
		{"large of two pages", []api.Page{large(0, 17, 0), tail(0)}, true},
		{"large of four pages", []api.Page{large(1, 64, 0), tail(1), tail(1), tail(1)}, true},
		{"large twice", []api.Page{large(0, 32, 0), tail(0), large(1, 33, 0), tail(1), tail(1)}, true},
		{"large at the end", []api.Page{{}, {}, {}, {}, large(0, 49, 0), tail(0), tail(0), tail(0)}, true},
		{"large of a page at the end", []api.Page{{}, {}, {}, {}, {}, {}, {}, large(0, 6, 0)}, true},

		{"kind -1", []api.Page{{Kind: -1}}, false},
		{"kind 4", []api.Page{{Kind: 4}}, false},
		{"kind 2^32", []api.Page{{Kind: 1 << 32}}, false},

		{"free with Space", []api.Page{{Space: 1}}, false},
		{"free with Used", []api.Page{{Used: 1}}, false},
		{"free with Pins", []api.Page{{Pins: 1}}, false},

		{"small, Space -1", []api.Page{small(-1, 0, 0)}, false},
		{"small, Space 2", []api.Page{small(2, 0, 0)}, false},
		{"small, Used -1", []api.Page{small(0, -1, 0)}, false},
		{"small, Used above", []api.Page{small(0, 17, 0)}, false},
		{"small, Pins -1", []api.Page{small(0, 0, -1)}, false},
		{"small, Pins above", []api.Page{small(0, 0, most+1)}, false},

		{"large, Space -1", []api.Page{large(-1, 5, 0)}, false},
		{"large, Space 2", []api.Page{large(2, 5, 0)}, false},
		{"large, Space 2 in its tails, too", []api.Page{large(2, 17, 0), tail(2)}, false},
		{"large, Used -1", []api.Page{large(0, -1, 0)}, false},
		{"large, Used 0", []api.Page{large(0, 0, 0)}, false},
		{"large, Used of a small object", []api.Page{large(0, 4, 0)}, false},
		{"large, Used above", []api.Page{large(0, 65, 0), tail(0), tail(0), tail(0), tail(0)}, false},
		{"large, Pins -1", []api.Page{large(0, 5, -1)}, false},
		{"large, Pins above", []api.Page{large(0, 5, most+1)}, false},
		{"large, no tails", []api.Page{large(0, 17, 0)}, false},
		{"large, too few tails", []api.Page{large(0, 64, 0), tail(0), tail(0)}, false},
		{"large, too many tails", []api.Page{large(0, 17, 0), tail(0), tail(0)}, false},
		{"large of a page with a tail", []api.Page{large(0, 16, 0), tail(0)}, false},
		{"large, first tail of another space", []api.Page{large(0, 33, 0), tail(1), tail(0)}, false},
		{"large, last tail of another space", []api.Page{large(0, 33, 0), tail(0), tail(1)}, false},
		{"large, other space than its tails", []api.Page{large(1, 33, 0), tail(0), tail(0)}, false},
		{"large, a small page between", []api.Page{large(0, 33, 0), small(0, 0, 0), tail(0)}, false},
		{"large, a free page between", []api.Page{large(0, 33, 0), {}, tail(0)}, false},
		{"large, a large page between", []api.Page{large(0, 33, 0), large(0, 17, 0), tail(0)}, false},
		{"large, no room for tails", []api.Page{{}, {}, {}, {}, {}, {}, {}, large(0, 17, 0)}, false},
		{"large, room for too few tails", []api.Page{{}, {}, {}, {}, {}, large(0, 49, 0), tail(0), tail(0)}, false},

		{"tail, Space 2", []api.Page{large(0, 17, 0), tail(2)}, false},
		{"tail, Used 1", []api.Page{large(0, 17, 0), {Kind: 3, Used: 1}}, false},
		{"tail, Used -1", []api.Page{large(0, 17, 0), {Kind: 3, Used: -1}}, false},
		{"tail, Pins 1", []api.Page{large(0, 17, 0), {Kind: 3, Pins: 1}}, false},
		{"tail, Pins -1", []api.Page{large(0, 17, 0), {Kind: 3, Pins: -1}}, false},
		{"tail, first page", []api.Page{tail(0)}, false},
		{"tail after a free page", []api.Page{{}, tail(0)}, false},
		{"tail after a small page", []api.Page{small(0, 4, 0), tail(0)}, false},
		{"tail after the last tail and a free page", []api.Page{large(0, 17, 0), tail(0), {}, tail(0)}, false},
		{"fifth tail", []api.Page{large(0, 64, 0), tail(0), tail(0), tail(0), tail(0)}, false},
	} {
		pages := make([]api.Page, 8)
		copy(pages, x.pages)
		if got := Proper(heapOf(pages)); got != x.want {
			t.Errorf("%s: %v", x.name, got)
		}
	}
}

// 4.5: the fields of the heap itself.
func TestProperHeaps(t *testing.T) {
	for _, x := range []struct {
		name   string
		change func(h *api.Heap)
		want   bool
	}{
		{"as it is", func(h *api.Heap) {}, true},
		{"any words", func(h *api.Heap) { h.Words[0], h.Words[127] = math.MaxUint64, 3 }, true},
		{"Space 1", func(h *api.Heap) { h.Space = 1 }, true},
		{"Bump is a small page", func(h *api.Heap) { h.Bump = 0 }, true},
		{"Bump is a small page of the other space", func(h *api.Heap) { h.Bump = 7 }, true},

		{"PageWords", func(h *api.Heap) { h.Conf.PageWords = 20 }, false},
		{"Pages", func(h *api.Heap) { h.Conf.Pages = 9 }, false},
		{"PageWords and Pages with as many words", func(h *api.Heap) { h.Conf = api.Conf{PageWords: 32, Pages: 4} }, false},
		{"no configuration", func(h *api.Heap) { h.Conf = api.Conf{} }, false},
		{"no words", func(h *api.Heap) { h.Words = nil }, false},
		{"a word too few", func(h *api.Heap) { h.Words = h.Words[:127] }, false},
		{"a word too many", func(h *api.Heap) { h.Words = make([]uint64, 129) }, false},
		{"no pages", func(h *api.Heap) { h.Pages = nil }, false},
		{"a page too few", func(h *api.Heap) { h.Pages = h.Pages[:7] }, false},
		{"a page too many", func(h *api.Heap) { h.Pages = append(h.Pages, api.Page{}) }, false},
		{"Space -1", func(h *api.Heap) { h.Space = -1 }, false},
		{"Space 2", func(h *api.Heap) { h.Space = 2 }, false},
		{"Bump -2", func(h *api.Heap) { h.Bump = -2 }, false},
		{"Bump is the least number", func(h *api.Heap) { h.Bump = math.MinInt }, false},
		{"Bump is a large page", func(h *api.Heap) { h.Bump = 1 }, false},
		{"Bump is a tail page", func(h *api.Heap) { h.Bump = 2 }, false},
		{"Bump is a free page", func(h *api.Heap) { h.Bump = 4 }, false},
		{"Bump is no page", func(h *api.Heap) { h.Bump = 8 }, false},
		{"Bump is the greatest number", func(h *api.Heap) { h.Bump = math.MaxInt }, false},
		{"first page", func(h *api.Heap) { h.Pages[0].Used = 17 }, false},
		{"last page", func(h *api.Heap) { h.Pages[7].Used = 17 }, false},
	} {
		h := heapOf(ordinary())
		x.change(&h)
		if got := Proper(h); got != x.want {
			t.Errorf("%s: %v", x.name, got)
		}
	}
	if Proper(api.Heap{}) {
		t.Error("the zero heap is proper")
	}
}

// 4.5: for each configuration with a large object at the end.
func TestProperOfEachConfiguration(t *testing.T) {
	for _, c := range someConfs {
		for k := 1; k <= api.MaxLargePages; k++ {
			h, _ := New(c)
			pages, e := Large(c, h.Pages, c.Pages-k, 1, k*c.PageWords)
			if e != api.OK {
				t.Fatalf("Large of %v, %d pages: error %d", c, k, e)
			}
			h.Pages = pages
			if !Proper(h) {
				t.Errorf("%v with %d pages is not proper", c, k)
			}
			h.Pages[c.Pages-k].Used++
			if Proper(h) {
				t.Errorf("%v with %d pages and a word too many is proper", c, k)
			}
		}
	}
}

// freeAt reports whether there is a FreePage i.
func freeAt(pages []api.Page, i int) bool { return i >= 0 && i < len(pages) && pages[i].Kind == 0 }

// runs are the chapter's maximal sequences: each pair of ends is tried.
func runs(pages []api.Page) []api.Run {
	var l []api.Run
	for from := range pages {
		for n := 1; from+n <= len(pages); n++ {
			all := !freeAt(pages, from-1) && !freeAt(pages, from+n)
			for i := range n {
				all = all && freeAt(pages, from+i)
			}
			if all {
				l = append(l, api.Run{From: from, Len: n})
			}
		}
	}
	return l
}

// 4.6: all tables of up to 10 pages that are free or not, with pages that are
// not proper, too: only the Kind counts.
func TestRunsOfAllTables(t *testing.T) {
	used := []api.Page{small(0, 0, 0), tail(1), {Kind: -1}, large(0, 99, 0), {Kind: 4}}
	free := []api.Page{{}, {Space: 1}, {Used: 3, Pins: -1}}
	for n := range 11 {
		for set := range 1 << n {
			var pages []api.Page
			inUse := 0
			for i := range n {
				if set>>i&1 == 1 {
					pages = append(pages, used[(i+set)%len(used)])
					inUse++
				} else {
					pages = append(pages, free[(i+set)%len(free)])
				}
			}
			checkRuns(t, pages, inUse)
		}
	}
}

func checkRuns(t *testing.T, pages []api.Page, inUse int) {
	t.Helper()
	if got := InUse(pages); got != inUse {
		t.Fatalf("InUse of %v: %d, want %d", pages, got, inUse)
	}
	want := runs(pages)
	if got := Runs(pages); !slices.Equal(got, want) {
		t.Fatalf("Runs of %v: %v, want %v", pages, got, want)
	}
	for _, k := range []int{math.MinInt, -1, 0, 1, 2, 3, 4, 5, 9, 10, 11, math.MaxInt} {
		first := -1
		for i := len(want) - 1; i >= 0; i-- {
			if k > 0 && want[i].Len >= k {
				first = want[i].From
			}
		}
		if got := First(pages, k); got != first {
			t.Fatalf("First of %v, %d: %d, want %d", pages, k, got, first)
		}
	}
}

// 4.6: tables without a FreePage, with one run and with several, written out.
func TestRunsWrittenOut(t *testing.T) {
	u, f := small(0, 4, 0), api.Page{}
	for _, x := range []struct {
		pages []api.Page
		inUse int
		runs  []api.Run
		first map[int]int
	}{
		{nil, 0, nil, map[int]int{-1: -1, 0: -1, 1: -1}},
		{[]api.Page{u, u, u}, 3, nil, map[int]int{0: -1, 1: -1, 3: -1}},
		{[]api.Page{f, f, f}, 0, []api.Run{{From: 0, Len: 3}}, map[int]int{-1: -1, 0: -1, 1: 0, 3: 0, 4: -1}},
		{[]api.Page{u, f, f, u}, 2, []api.Run{{From: 1, Len: 2}}, map[int]int{0: -1, 1: 1, 2: 1, 3: -1}},
		{
			[]api.Page{f, u, f, f, u, u, f, f, f, u, f, f}, 4,
			[]api.Run{{From: 0, Len: 1}, {From: 2, Len: 2}, {From: 6, Len: 3}, {From: 10, Len: 2}},
			map[int]int{0: -1, 1: 0, 2: 2, 3: 6, 4: -1, 8: -1},
		},
		{ordinary(), 7, []api.Run{{From: 4, Len: 1}}, map[int]int{1: 4, 2: -1}},
	} {
		if got := InUse(x.pages); got != x.inUse {
			t.Errorf("InUse of %v: %d", x.pages, got)
		}
		if got := Runs(x.pages); !slices.Equal(got, x.runs) {
			t.Errorf("Runs of %v: %v", x.pages, got)
		}
		for k, want := range x.first {
			if got := First(x.pages, k); got != want {
				t.Errorf("First of %v, %d: %d, want %d", x.pages, k, got, want)
			}
		}
	}
}

// numbers of pages, of which there are 8, and spaces to try.
var (
	indexes = []int{math.MinInt, math.MinInt + 1, -8, -2, -1, 0, 1, 2, 3, 4, 5, 6, 7, 8, 9, 1 << 32, math.MaxInt - 3, math.MaxInt}
	spaces  = []int{math.MinInt, -1, 0, 1, 2, 1 << 32, math.MaxInt}
)

// taken is what the chapter says of taking k pages from i on.
func taken(pages []api.Page, i, space, k int, head api.Page) ([]api.Page, api.Errno) {
	if k < 1 || space != 0 && space != 1 {
		return nil, api.ErrArg
	}
	for j := range k {
		if i < 0 || i >= len(pages) || i+j >= len(pages) {
			return nil, api.ErrRange
		}
	}
	l := slices.Clone(pages)
	for j := range k {
		if pages[i+j].Kind != 0 {
			return nil, api.ErrState
		}
		l[i+j] = tail(space)
	}
	l[i] = head
	return l, api.OK
}

// someTables are tables of 8 pages and shorter ones.
func someTables() [][]api.Page {
	f := api.Page{}
	return [][]api.Page{
		nil, {f}, {f, f, f}, make([]api.Page, 8), ordinary(),
		{f, f, small(0, 0, 0), f, f, f, f, f},
		{f, f, f, f, large(0, 33, 0), tail(0), tail(0), f},
		{{Used: 1}, {Space: 1, Pins: 1}, f, f, {Kind: 4}, f, {Kind: -1}, f},
		slices.Repeat([]api.Page{small(1, 2, 3)}, 8),
	}
}

// guarded returns a copy of pages with marks between its length and capacity,
// and a function that reports whether the copy and the marks are unchanged.
func guarded(pages []api.Page) ([]api.Page, func() bool) {
	mark := api.Page{Kind: 9, Space: 9, Used: 9, Pins: 9}
	l := append(slices.Clone(pages), mark, mark, mark)
	before := slices.Clone(l)
	return l[:len(pages)], func() bool { return slices.Equal(l, before) }
}

// checkPages compares a result with what is wanted, and looks whether it
// shares memory with the argument or whether that has changed.
func checkPages(t *testing.T, got, want []api.Page, e, wantE api.Errno, unchanged func() bool) {
	t.Helper()
	if !slices.Equal(got, want) || e != wantE {
		t.Fatalf("%v, error %d, want %v, error %d", got, e, want, wantE)
	}
	for i := range got {
		got[i] = api.Page{Kind: 8}
	}
	if !unchanged() {
		t.Fatal("the argument was changed")
	}
}

// 4.7
func TestSmall(t *testing.T) {
	for _, pages := range someTables() {
		for _, i := range indexes {
			for _, space := range spaces {
				l, unchanged := guarded(pages)
				got, e := Small(l, i, space)
				want, wantE := taken(pages, i, space, 1, small(space, 0, 0))
				checkPages(t, got, want, e, wantE, unchanged)
			}
		}
	}
}

// 4.7
func TestLarge(t *testing.T) {
	lengths := []int{math.MinInt, -1, 0, 1, 4, 5, 16, 17, 32, 33, 48, 49, 64, 65, 1 << 32, math.MaxInt}
	for _, pages := range someTables() {
		for _, i := range indexes {
			for _, space := range spaces {
				for _, words := range lengths {
					l, unchanged := guarded(pages)
					got, e := Large(conf, l, i, space, words)
					want, wantE := taken(pages, i, space, need(conf, words), large(space, words, 0))
					checkPages(t, got, want, e, wantE, unchanged)
				}
			}
		}
	}
}

// 4.7: for other configurations, valid and not.
func TestLargeOfEachConfiguration(t *testing.T) {
	for _, c := range someConfs {
		pages := make([]api.Page, c.Pages)
		for words := -1; words <= 260; words++ {
			for _, i := range []int{-1, 0, 3, c.Pages - 4, c.Pages - 3, c.Pages - 2, c.Pages - 1, c.Pages} {
				l, unchanged := guarded(pages)
				got, e := Large(c, l, i, 1, words)
				want, wantE := taken(pages, i, 1, need(c, words), large(1, words, 0))
				checkPages(t, got, want, e, wantE, unchanged)
			}
		}
	}
	for _, c := range wrongConfs {
		for _, i := range []int{-1, 0, 7, 8} {
			for _, words := range []int{0, 1, 5, 17, 64} {
				l, unchanged := guarded(ordinary())
				got, e := Large(c, l, i, 0, words)
				checkPages(t, got, nil, e, api.ErrArg, unchanged)
			}
		}
	}
}

// 4.7: each error in its order, written out.
func TestErrorsOfSmallAndLarge(t *testing.T) {
	pages := ordinary() // page 4 is free, the others are not
	for _, x := range []struct {
		i, space int
		e        api.Errno
	}{
		{-1, 2, api.ErrArg}, {8, -1, api.ErrArg}, {0, 2, api.ErrArg}, {4, 2, api.ErrArg},
		{-1, 0, api.ErrRange}, {8, 1, api.ErrRange},
		{0, 0, api.ErrState}, {1, 1, api.ErrState}, {2, 1, api.ErrState}, {7, 0, api.ErrState},
		{4, 0, api.OK}, {4, 1, api.OK},
	} {
		if got, e := Small(pages, x.i, x.space); e != x.e || (e == api.OK) != (got != nil) {
			t.Errorf("Small of page %d, space %d: %v, error %d, want error %d", x.i, x.space, got, e, x.e)
		}
	}
	for _, x := range []struct {
		i, space, words int
		e               api.Errno
	}{
		{4, 0, 4, api.ErrArg}, {4, 0, 65, api.ErrArg}, {4, 2, 5, api.ErrArg}, {-1, -1, 5, api.ErrArg}, {8, 0, 0, api.ErrArg},
		{-1, 0, 5, api.ErrRange}, {8, 0, 5, api.ErrRange}, {7, 0, 17, api.ErrRange}, {5, 0, 64, api.ErrRange},
		{0, 0, 5, api.ErrState}, {4, 0, 17, api.ErrState}, {4, 1, 64, api.ErrState}, {3, 1, 17, api.ErrState}, {7, 0, 16, api.ErrState},
		{4, 0, 5, api.OK}, {4, 1, 16, api.OK},
	} {
		if got, e := Large(conf, pages, x.i, x.space, x.words); e != x.e || (e == api.OK) != (got != nil) {
			t.Errorf("Large of page %d, space %d, %d words: %v, error %d, want error %d", x.i, x.space, x.words, got, e, x.e)
		}
	}
}

// freed is what the chapter says of giving page i back.
func freed(pages []api.Page, i int) ([]api.Page, api.Errno) {
	if i < 0 || i >= len(pages) {
		return nil, api.ErrRange
	}
	l := slices.Clone(pages)
	switch l[i].Kind {
	case 1:
		l[i] = api.Page{}
	case 2:
		l[i] = api.Page{}
		for i++; i < len(l) && l[i].Kind == 3; i++ {
			l[i] = api.Page{}
		}
	default:
		return nil, api.ErrState
	}
	return l, api.OK
}

// 4.7
func TestFree(t *testing.T) {
	check := func(pages []api.Page) {
		for _, i := range indexes {
			l, unchanged := guarded(pages)
			got, e := Free(l, i)
			want, wantE := freed(pages, i)
			checkPages(t, got, want, e, wantE, unchanged)
		}
	}
	for _, pages := range someTables() {
		check(pages)
	}
	for n := range 5 {
		tables(n, check)
	}
}

// 4.7: written out.
func TestFreeWrittenOut(t *testing.T) {
	f := api.Page{}
	for _, x := range []struct {
		name  string
		pages []api.Page
		i     int
		want  []api.Page
		e     api.Errno
	}{
		{"small", ordinary(), 0, append([]api.Page{f}, ordinary()[1:]...), api.OK},
		{"large of three pages", ordinary(), 1, slices.Concat(ordinary()[:1], []api.Page{f, f, f}, ordinary()[4:]), api.OK},
		{"large of two pages", ordinary(), 5, slices.Concat(ordinary()[:5], []api.Page{f, f}, ordinary()[7:]), api.OK},
		{"small at the end", ordinary(), 7, append(ordinary()[:7], f), api.OK},
		{"small before a tail", []api.Page{small(0, 1, 1), tail(0)}, 0, []api.Page{f, tail(0)}, api.OK},
		{"more tails than words need", []api.Page{large(0, 5, 1), tail(0), tail(1), {Kind: 3, Used: 5}, f}, 0, make([]api.Page, 5), api.OK},
		{"fewer tails than words need", []api.Page{large(0, 64, 1), tail(0), small(1, 1, 0), tail(0)}, 0, []api.Page{f, f, small(1, 1, 0), tail(0)}, api.OK},
		{"another large page behind", []api.Page{large(0, 17, 0), tail(0), large(0, 17, 0), tail(0)}, 0, []api.Page{f, f, large(0, 17, 0), tail(0)}, api.OK},
		{"no page -1", ordinary(), -1, nil, api.ErrRange},
		{"no page 8", ordinary(), 8, nil, api.ErrRange},
		{"no pages", nil, 0, nil, api.ErrRange},
		{"tail", ordinary(), 2, nil, api.ErrState},
		{"free", ordinary(), 4, nil, api.ErrState},
		{"kind 4", []api.Page{{Kind: 4}}, 0, nil, api.ErrState},
		{"kind -1", []api.Page{{Kind: -1}}, 0, nil, api.ErrState},
	} {
		if got, e := Free(x.pages, x.i); !slices.Equal(got, x.want) || e != x.e {
			t.Errorf("%s: %v, error %d", x.name, got, e)
		}
	}
}

// 4.7: what is taken can be given back, and the heap stays proper.
func TestFreeUndoesSmallAndLarge(t *testing.T) {
	for i := range 8 {
		for words := 1; words <= 64; words++ {
			h := heapOf(make([]api.Page, 8))
			pages, e := Small(h.Pages, i, 1)
			if need(conf, words) > 0 {
				pages, e = Large(conf, h.Pages, i, 1, words)
			}
			if e != api.OK {
				continue
			}
			h.Pages = pages
			if !Proper(h) || InUse(pages) != max(1, need(conf, words)) {
				t.Errorf("page %d, %d words: %v", i, words, pages)
			}
			if got, e := Free(pages, i); !slices.Equal(got, make([]api.Page, 8)) || e != api.OK {
				t.Errorf("page %d, %d words, given back: %v, error %d", i, words, got, e)
			}
		}
	}
}
