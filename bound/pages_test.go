package bound_test

import (
	"math"
	"testing"

	"semispace/api"
	"semispace/bound"
	"semispace/heaptest"
)

// confs are all valid configurations with some numbers of pages.
func confs() []api.Conf {
	var l []api.Conf
	for n := 16; n <= 64; n += 4 {
		for _, pages := range []int{8, 9, 11, 12, 15, 16, 20, 31, 32, 63, 64} {
			l = append(l, api.Conf{PageWords: n, Pages: pages})
		}
	}
	return l
}

// notConfs are configurations that are not valid.
func notConfs() []api.Conf {
	return []api.Conf{
		{}, {PageWords: 12, Pages: 8}, {PageWords: 68, Pages: 8}, {PageWords: 18, Pages: 8}, {PageWords: 63, Pages: 64},
		{PageWords: 16, Pages: 7}, {PageWords: 16, Pages: 65}, {PageWords: 0, Pages: 8}, {PageWords: 16, Pages: 0},
		{PageWords: -16, Pages: 8}, {PageWords: 16, Pages: -8}, {PageWords: math.MaxInt, Pages: 8},
		{PageWords: math.MinInt, Pages: 8}, {PageWords: 16, Pages: math.MaxInt}, {PageWords: 16, Pages: math.MinInt},
	}
}

// edges are the first and the last number that a Live may have, with numbers
// between them and outside of them.
func edges() (inside, outside []int) {
	return []int{0, 1, math.MaxInt32 - 1, math.MaxInt32},
		[]int{-1, math.MinInt32, math.MinInt, math.MaxInt32 + 1, 1 << 32, 1<<32 + 1, 1 << 62, math.MaxInt}
}

// number returns number k of a Live.
func number(l *bound.Live, k int) *int {
	return []*int{&l.Objects, &l.Words, &l.Small, &l.Large, &l.Pinned}[k]
}

func TestExamples(t *testing.T) {
	if n := bound.Pages(api.Conf{PageWords: 16, Pages: 8}, bound.Live{Small: 13}); n != 2 {
		t.Errorf("%d pages", n)
	}
	if !bound.Sure(api.Conf{PageWords: 16, Pages: 8}, bound.Live{}, api.Header{Kind: api.Words, Length: 3}) {
		t.Error("not sure")
	}
}

// 13.2: around each number of words from which on another page may be needed.
func TestPages(t *testing.T) {
	for _, x := range []struct {
		words int
		l     bound.Live
		want  int
	}{
		{16, bound.Live{}, 0},
		{16, bound.Live{Small: 1}, 1},
		{16, bound.Live{Small: 12}, 1},
		{16, bound.Live{Small: 13}, 2},
		{16, bound.Live{Small: 24}, 2},
		{16, bound.Live{Small: 25}, 3},
		{20, bound.Live{Small: 15}, 1},
		{20, bound.Live{Small: 16}, 2},
		{64, bound.Live{Small: 48}, 1},
		{64, bound.Live{Small: 49}, 2},
		{64, bound.Live{Small: 96}, 2},
		{64, bound.Live{Small: 97}, 3},
		{16, bound.Live{Pinned: 3}, 3},
		{16, bound.Live{Large: 5}, 5},
		{16, bound.Live{Objects: 9}, 0},
		{16, bound.Live{Words: 90}, 0},
		{16, bound.Live{Objects: 7, Words: 99, Small: 36, Large: 4, Pinned: 2}, 9},
		{16, bound.Live{Objects: 7, Words: 99, Small: 37, Large: 4, Pinned: 2}, 10},
	} {
		for _, pages := range []int{8, 21, 64} { // they make no difference
			if got := bound.Pages(api.Conf{PageWords: x.words, Pages: pages}, x.l); got != x.want {
				t.Errorf("%d words on a page, %+v: %d pages, want %d", x.words, x.l, got, x.want)
			}
		}
	}
}

// 13.2: the last term is the least integer that is not less than the quotient.
func TestPagesLeastInteger(t *testing.T) {
	for _, c := range confs() {
		for _, from := range []int{0, 1 << 20, math.MaxInt32 - 200} {
			for small := from; small < from+200; small++ {
				n := bound.Pages(c, bound.Live{Small: small})
				if 3*c.PageWords*n < 4*small || 3*c.PageWords*(n-1) >= 4*small {
					t.Fatalf("%v, %d words: %d pages", c, small, n)
				}
			}
		}
	}
}

// 13.2: the first and the last number that is allowed, and the ones outside, in
// each place. Nothing overflows.
func TestPagesEdges(t *testing.T) {
	inside, outside := edges()
	const most = math.MaxInt32
	for _, x := range []struct {
		l    bound.Live
		want int
	}{
		{bound.Live{most, most, 0, 0, 0}, 0},
		{bound.Live{0, 0, most, 0, 0}, 178956971}, // of 178956970.58
		{bound.Live{0, 0, 0, most, 0}, most},
		{bound.Live{0, 0, 0, 0, most}, most},
		{bound.Live{most, most, most, most, most}, 2*most + 178956971},
	} {
		if got := bound.Pages(heaptest.Conf, x.l); got != x.want {
			t.Errorf("%+v: %d pages, want %d", x.l, got, x.want)
		}
	}
	for k := range 5 {
		for _, base := range []bound.Live{{}, {1, 1, 1, 1, 1}, {most, most, most, most, most}} {
			for _, n := range outside {
				l := base
				*number(&l, k) = n
				if got := bound.Pages(heaptest.Conf, l); got != 0 {
					t.Errorf("%+v: %d pages", l, got)
				}
			}
		}
		for _, n := range inside {
			l := bound.Live{Pinned: 1}
			*number(&l, k) = n
			if got := bound.Pages(heaptest.Conf, l); k != 4 && got < 1 || k == 4 && got != n {
				t.Errorf("%+v: %d pages", l, got)
			}
		}
	}
}

// 13.2: configurations that are not valid.
func TestPagesNoConf(t *testing.T) {
	for _, c := range notConfs() {
		for _, l := range []bound.Live{{}, {Small: 13}, {1, 2, 3, 4, 5}, {Pinned: -1}} {
			if got := bound.Pages(c, l); got != 0 {
				t.Errorf("%v, %+v: %d pages", c, l, got)
			}
		}
	}
}

// headers are those of objects with so many words, one of each kind.
func headers(size int) []api.Header {
	l := []api.Header{{Kind: api.Words, Length: size - 1}, {Kind: api.Refs, Length: size - 1}}
	if size <= 33 {
		l = append(l, api.Header{Kind: api.Record, Length: size - 1}, api.Header{Kind: api.Record, Length: size - 1, Map: 1<<(size-1) - 1})
	}
	return l
}

// sure is what Sure is to say of an object of so many words, if Pages is p.
func sure(c api.Conf, p, size int) bool {
	if 4*size <= c.PageWords {
		return p+1 <= c.Pages/4
	}
	for k := 1; k <= 4; k++ {
		if k*c.PageWords >= size {
			return p+k <= c.Pages/4 && c.Pages-p > (p+1)*(k-1)
		}
	}
	return false
}

// 13.3: objects of each size, of which nothing is alive, or more and more.
func TestSure(t *testing.T) {
	results := map[bool]int{}
	for _, c := range confs() {
		for p := range c.Pages/4 + 2 {
			for _, l := range []bound.Live{{Pinned: p}, {Large: p}, {Small: p * c.PageWords * 3 / 4}, {Objects: 3000, Words: 4000, Pinned: p / 2, Large: p - p/2}} {
				for size := 1; size <= 4*c.PageWords+1 && size <= 256; size += 1 + size/7 {
					for _, hd := range headers(size) {
						want := sure(c, p, size)
						if got := bound.Sure(c, l, hd); got != want {
							t.Fatalf("%v, %+v, %v: %t", c, l, hd, got)
						}
						results[want]++
					}
				}
			}
		}
	}
	if min(results[true], results[false]) < 10000 {
		t.Errorf("hardly any of one kind: %v", results)
	}
}

// 13.3: the last object that is small, and the last ones of one to four pages,
// with the last number of pages where they are sure, and the next one.
func TestSureEdges(t *testing.T) {
	for _, x := range []struct {
		c       api.Conf
		size, p int // p is the last one; -1 if there is none
	}{
		{api.Conf{PageWords: 16, Pages: 8}, 1, 1},
		{api.Conf{PageWords: 16, Pages: 8}, 4, 1},
		{api.Conf{PageWords: 16, Pages: 8}, 5, 1},
		{api.Conf{PageWords: 16, Pages: 8}, 16, 1},
		{api.Conf{PageWords: 16, Pages: 8}, 17, 0},
		{api.Conf{PageWords: 16, Pages: 8}, 32, 0},
		{api.Conf{PageWords: 16, Pages: 8}, 33, -1},
		{api.Conf{PageWords: 16, Pages: 11}, 32, 0},
		{api.Conf{PageWords: 16, Pages: 11}, 33, -1},
		{api.Conf{PageWords: 16, Pages: 12}, 48, 0},
		{api.Conf{PageWords: 16, Pages: 12}, 49, -1},
		{api.Conf{PageWords: 16, Pages: 15}, 64, -1},
		{api.Conf{PageWords: 16, Pages: 16}, 64, 0},
		{api.Conf{PageWords: 16, Pages: 64}, 4, 15},
		{api.Conf{PageWords: 16, Pages: 64}, 16, 15},
		{api.Conf{PageWords: 16, Pages: 64}, 17, 14},
		{api.Conf{PageWords: 16, Pages: 64}, 48, 13},
		{api.Conf{PageWords: 16, Pages: 64}, 49, 12},
		{api.Conf{PageWords: 16, Pages: 64}, 64, 12},
		{api.Conf{PageWords: 16, Pages: 64}, 65, -1},
		{api.Conf{PageWords: 64, Pages: 64}, 16, 15},
		{api.Conf{PageWords: 64, Pages: 64}, 64, 15},
		{api.Conf{PageWords: 64, Pages: 64}, 65, 14},
		{api.Conf{PageWords: 64, Pages: 64}, 256, 12},
		{api.Conf{PageWords: 64, Pages: 64}, 257, -1},
	} {
		hd := api.Header{Kind: api.Words, Length: x.size - 1}
		for p := range 70 {
			if got := bound.Sure(x.c, bound.Live{Pinned: p}, hd); got != (p <= x.p) {
				t.Errorf("%v, %d words, %d pages: %t", x.c, x.size, p, got)
			}
		}
		if n := 3 * x.c.PageWords / 4 * x.p; x.p >= 0 {
			if !bound.Sure(x.c, bound.Live{Small: n}, hd) || bound.Sure(x.c, bound.Live{Small: n + 1}, hd) {
				t.Errorf("%v, %d words, %d words are small", x.c, x.size, n)
			}
		}
	}
}

// 13.3: what cannot be asked for, with nothing alive.
func TestSureHeaders(t *testing.T) {
	for _, hd := range []api.Header{
		{}, {Kind: api.Filler, Length: 3}, {Kind: 4, Length: 3}, {Kind: -1, Length: 3},
		{Kind: api.Words, Length: -1}, {Kind: api.Words, Length: 256}, {Kind: api.Refs, Length: 256},
		{Kind: api.Words, Length: math.MaxInt}, {Kind: api.Words, Length: math.MinInt},
		{Kind: api.Words, Length: 3, Map: 1}, {Kind: api.Refs, Length: 3, Map: 7},
		{Kind: api.Record, Length: 33}, {Kind: api.Record, Length: 3, Map: 8}, {Kind: api.Record, Length: -1},
	} {
		if bound.Sure(heaptest.Wide, bound.Live{}, hd) {
			t.Errorf("%v is sure", hd)
		}
	}
	for _, hd := range []api.Header{{Kind: api.Record, Length: 32, Map: 1<<32 - 1}, {Kind: api.Record, Length: 3, Map: 7}} {
		if !bound.Sure(heaptest.Wide, bound.Live{}, hd) {
			t.Errorf("%v is not sure", hd)
		}
	}
	for _, c := range notConfs() {
		for size := 1; size < 70; size++ {
			if hd := (api.Header{Kind: api.Words, Length: size - 1}); bound.Sure(c, bound.Live{}, hd) {
				t.Errorf("%v, %v is sure", c, hd)
			}
		}
	}
}

// 13.3: numbers that are not allowed, or too great for anything to be sure.
func TestSureNumbers(t *testing.T) {
	inside, outside := edges()
	for _, size := range []int{1, 16, 17, 65, 256} {
		hd := api.Header{Kind: api.Words, Length: size - 1}
		for k := range 5 {
			for _, n := range outside {
				var l bound.Live
				*number(&l, k) = n
				if bound.Sure(heaptest.Wide, l, hd) {
					t.Errorf("%+v, %v is sure", l, hd)
				}
			}
			for _, n := range inside {
				var l bound.Live
				*number(&l, k) = n
				if got := bound.Sure(heaptest.Wide, l, hd); got != (k < 2 || n < 2) {
					t.Errorf("%+v, %v: %t", l, hd, got)
				}
			}
		}
	}
}
