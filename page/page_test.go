package page

import (
	"math"
	"slices"
	"testing"

	"semispace/api"
)

// confs are all configurations around the limits and extreme ones.
func confs() []api.Conf {
	edges := []int{math.MinInt, math.MinInt + 16, -64, -16, -8, -4, -1, math.MaxInt, math.MaxInt - 3, 1 << 32, 1<<32 + 16, 1 << 62}
	for n := range 132 {
		edges = append(edges, n)
	}
	var l []api.Conf
	for _, w := range edges {
		for _, p := range edges {
			l = append(l, api.Conf{PageWords: w, Pages: p})
		}
	}
	return l
}

// pageWords are the PageWords that the chapter allows, by counting in fours.
func pageWords() []int {
	var l []int
	for n := 16; n <= 64; n += 4 {
		l = append(l, n)
	}
	return l
}

// allowed is the chapter's definition of a valid configuration.
func allowed(c api.Conf) bool {
	return slices.Contains(pageWords(), c.PageWords) && c.Pages > 7 && c.Pages < 65
}

// someConfs are valid configurations: the least, the greatest and others.
var someConfs = paired([][2]int{{16, 8}, {16, 64}, {64, 8}, {64, 64}, {20, 9}, {36, 11}, {60, 63}})

// wrongConfs are just not valid.
var wrongConfs = paired([][2]int{
	{0, 0}, {12, 8}, {15, 8}, {17, 8}, {18, 8}, {19, 8}, {62, 8}, {63, 8}, {65, 8}, {68, 8}, {128, 8},
	{16, 0}, {16, 7}, {16, 65}, {16, -8}, {-16, 8}, {-16, -8}, {0, 8},
	{math.MaxInt, 8}, {math.MinInt, 8}, {16, math.MaxInt}, {16, math.MinInt},
	{1<<32 + 16, 8}, {16, 1<<32 + 8}, {math.MaxInt, math.MaxInt},
})

// paired returns the configurations with these PageWords and Pages.
func paired(l [][2]int) []api.Conf {
	var confs []api.Conf
	for _, x := range l {
		confs = append(confs, api.Conf{PageWords: x[0], Pages: x[1]})
	}
	return confs
}

// 4.1
func TestConfigurations(t *testing.T) {
	for _, c := range confs() {
		limit, words := 0, 0
		if allowed(c) {
			for (limit+1)*4 <= c.Pages {
				limit++
			}
			for (words+1)*4 <= c.PageWords {
				words++
			}
		}
		if got := ValidConf(c); got != allowed(c) {
			t.Errorf("ValidConf of %v: %v", c, got)
		}
		if got := Limit(c); got != limit {
			t.Errorf("Limit of %v: %d, want %d", c, got, limit)
		}
		if got := SmallWords(c); got != words {
			t.Errorf("SmallWords of %v: %d, want %d", c, got, words)
		}
	}
}

// 4.1: the edge cases, written out.
func TestConfigurationsAtTheLimits(t *testing.T) {
	for _, x := range []struct {
		c            api.Conf
		ok           bool
		limit, words int
	}{
		{api.Conf{PageWords: 16, Pages: 8}, true, 2, 4},
		{api.Conf{PageWords: 64, Pages: 64}, true, 16, 16},
		{api.Conf{PageWords: 20, Pages: 9}, true, 2, 5},
		{api.Conf{PageWords: 60, Pages: 63}, true, 15, 15},
		{api.Conf{PageWords: 16, Pages: 11}, true, 2, 4},
		{api.Conf{PageWords: 16, Pages: 12}, true, 3, 4},
	} {
		if ok, limit, words := ValidConf(x.c), Limit(x.c), SmallWords(x.c); ok != x.ok || limit != x.limit || words != x.words {
			t.Errorf("%v: %v, %d, %d", x.c, ok, limit, words)
		}
	}
	for _, c := range wrongConfs {
		if ok, limit, words := ValidConf(c), Limit(c), SmallWords(c); ok || limit != 0 || words != 0 {
			t.Errorf("%v: %v, %d, %d", c, ok, limit, words)
		}
	}
}

// need is the chapter's number of pages of an object, by counting.
func need(c api.Conf, words int) int {
	if !allowed(c) || words < 1 {
		return -1
	}
	if words <= c.PageWords/4 {
		return 0
	}
	for k := 1; k <= 4; k++ {
		if k*c.PageWords >= words {
			return k
		}
	}
	return -1
}

// 4.2
func TestNeed(t *testing.T) {
	for _, n := range pageWords() {
		for _, pages := range []int{8, 9, 64} {
			c := api.Conf{PageWords: n, Pages: pages}
			for words := -2; words <= 400; words++ {
				if got := Need(c, words); got != need(c, words) {
					t.Errorf("Need of %v, %d words: %d, want %d", c, words, got, need(c, words))
				}
			}
		}
	}
}

// 4.2: the edge cases, written out.
func TestNeedAtTheLimits(t *testing.T) {
	for _, c := range someConfs {
		want := map[int]int{
			math.MinInt: -1, -1: -1, 0: -1, 1: 0,
			SmallWords(c): 0, SmallWords(c) + 1: 1,
			c.PageWords: 1, c.PageWords + 1: 2,
			2 * c.PageWords: 2, 2*c.PageWords + 1: 3,
			3 * c.PageWords: 3, 3*c.PageWords + 1: 4,
			4 * c.PageWords: 4, 4*c.PageWords + 1: -1,
			5 * c.PageWords: -1, 5*c.PageWords + 1: -1,
			1<<32 + 1: -1, math.MaxInt - c.PageWords: -1, math.MaxInt: -1,
		}
		for words, k := range want {
			if got := Need(c, words); got != k {
				t.Errorf("Need of %v, %d words: %d, want %d", c, words, got, k)
			}
		}
	}
	for _, c := range wrongConfs {
		for _, words := range []int{math.MinInt, -1, 0, 1, 4, 5, 17, 65, math.MaxInt} {
			if got := Need(c, words); got != -1 {
				t.Errorf("Need of %v, %d words: %d", c, words, got)
			}
		}
	}
}

// 4.3: Address and Of count the words of all pages one after the other.
func TestAddressAndOf(t *testing.T) {
	for _, c := range someConfs {
		addr := uint64(api.Base)
		for page := range c.Pages {
			for offset := range c.PageWords {
				if got, e := Address(c, page, offset); got != addr || e != api.OK {
					t.Fatalf("Address of %v, page %d, offset %d: %d, error %d, want %d", c, page, offset, got, e, addr)
				}
				if i, k, e := Of(c, addr); i != page || k != offset || e != api.OK {
					t.Fatalf("Of %v, %d: page %d, offset %d, error %d, want %d, %d", c, addr, i, k, e, page, offset)
				}
				addr++
			}
		}
		if i, k, e := Of(c, addr); i != 0 || k != 0 || e != api.ErrRange {
			t.Errorf("Of %v behind the last word: page %d, offset %d, error %d", c, i, k, e)
		}
	}
}

// 4.3
func TestAddressOutside(t *testing.T) {
	for _, c := range someConfs {
		pages := []int{math.MinInt, math.MinInt + 1, -c.Pages, -1, 0, c.Pages - 1, c.Pages, c.Pages + 1, 1 << 32, 1 << 60, math.MaxInt}
		offsets := []int{math.MinInt, -c.PageWords, -1, 0, c.PageWords - 1, c.PageWords, c.PageWords + 1, 1 << 32, math.MaxInt}
		for _, page := range pages {
			for _, offset := range offsets {
				want, wantE := uint64(0), api.ErrRange
				if page >= 0 && page < c.Pages && offset >= 0 && offset < c.PageWords {
					want, wantE = 4096+uint64(page*c.PageWords+offset), api.OK
				}
				if got, e := Address(c, page, offset); got != want || e != wantE {
					t.Errorf("Address of %v, page %d, offset %d: %d, error %d, want %d, error %d", c, page, offset, got, e, want, wantE)
				}
			}
		}
	}
}

// 4.3
func TestOfOutside(t *testing.T) {
	for _, c := range someConfs {
		behind := api.Base + uint64(c.PageWords*c.Pages)
		for _, addr := range []uint64{0, 1, api.Base - 1, behind, behind + 1, 2 * behind, 1 << 32, 1<<32 + api.Base, 1 << 63, 1<<63 + api.Base, math.MaxUint64} {
			if i, k, e := Of(c, addr); i != 0 || k != 0 || e != api.ErrRange {
				t.Errorf("Of %v, %d: page %d, offset %d, error %d", c, addr, i, k, e)
			}
		}
	}
}

// 4.3: ErrArg comes before ErrRange.
func TestAddressAndOfWithoutConfiguration(t *testing.T) {
	for _, c := range wrongConfs {
		for _, n := range []int{-1, 0, 1, 100} {
			if got, e := Address(c, n, n); got != 0 || e != api.ErrArg {
				t.Errorf("Address of %v, page and offset %d: %d, error %d", c, n, got, e)
			}
		}
		for _, addr := range []uint64{0, api.Base - 1, api.Base, api.Base + 1, 1 << 20, math.MaxUint64} {
			if i, k, e := Of(c, addr); i != 0 || k != 0 || e != api.ErrArg {
				t.Errorf("Of %v, %d: page %d, offset %d, error %d", c, addr, i, k, e)
			}
		}
	}
}

// sameHeap reports whether two heaps are equal.
func sameHeap(a, b api.Heap) bool {
	return a.Conf == b.Conf && slices.Equal(a.Words, b.Words) && slices.Equal(a.Pages, b.Pages) && a.Space == b.Space && a.Bump == b.Bump
}

// 4.4
func TestNew(t *testing.T) {
	for _, c := range confs() {
		want, wantE := api.Heap{}, api.ErrArg
		if allowed(c) {
			want = api.Heap{Conf: c, Words: make([]uint64, c.PageWords*c.Pages), Pages: make([]api.Page, c.Pages), Bump: -1}
			wantE = api.OK
		}
		h, e := New(c)
		if !sameHeap(h, want) || e != wantE {
			t.Errorf("New of %v: error %d", c, e)
		}
		if Proper(h) != allowed(c) {
			t.Errorf("New of %v: proper is %v", c, Proper(h))
		}
	}
}

// 4.4: heaps share no memory with each other.
func TestNewMemory(t *testing.T) {
	c := api.Conf{PageWords: 16, Pages: 8}
	a, _ := New(c)
	a.Words[0], a.Pages[0].Kind = 1, api.SmallPage
	b, _ := New(c)
	if b.Words[0] != 0 || b.Pages[0] != (api.Page{}) {
		t.Error("New returned a changed heap")
	}
}

func TestExamples(t *testing.T) {
	c := api.Conf{PageWords: 16, Pages: 8}
	if got := Limit(c); got != 2 {
		t.Errorf("Limit: %d", got)
	}
	for words, want := range map[int]int{4: 0, 5: 1, 17: 2, 65: -1} {
		if got := Need(c, words); got != want {
			t.Errorf("Need of %d words: %d, want %d", words, got, want)
		}
	}
	if got, e := Address(c, 1, 2); got != 4114 || e != api.OK {
		t.Errorf("Address: %d, error %d", got, e)
	}
}
