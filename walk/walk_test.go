package walk

import (
	"math"
	"slices"
	"testing"

	"semispace/api"
	"semispace/header"
	"semispace/object"
	"semispace/page"
)

// word is the word of a header, in numbers instead of bits.
func word(hd api.Header) uint64 {
	return 1 + 4*uint64(hd.Kind) + 16*uint64(hd.Length) + 65536*uint64(hd.Map)
}

func filler(n int) api.Header { return api.Header{Length: n} }
func words(n int) api.Header  { return api.Header{Kind: api.Words, Length: n} }
func refs(n int) api.Header   { return api.Header{Kind: api.Refs, Length: n} }

func record(n int, m uint32) api.Header {
	return api.Header{Kind: api.Record, Length: n, Map: m}
}

// sheet is what the tests put on a page, in this order: a LargePage has one
// thing, which reaches over the next pages if it has to.
type sheet struct {
	kind int
	l    []api.Header
}

func small(l ...api.Header) sheet { return sheet{api.SmallPage, l} }
func large(hd api.Header) sheet   { return sheet{api.LargePage, []api.Header{hd}} }

// thing is an object or a filler in a heap of the tests.
type thing struct {
	page int
	addr uint64
	hd   api.Header
}

// other is the word with this index, if the tests put no header there. Many of
// these words are headers, too, so that a wrong step would find something.
func other(i int) uint64 {
	return []uint64{0, word(words(0)), word(filler(0)), 4096, word(refs(1)), math.MaxUint64, word(words(3))}[i%7]
}

// build returns a heap with these sheets, and what is in it. The memory behind
// its slices contains marks, which must stay.
func build(c api.Conf, sheets ...sheet) (api.Heap, []thing) {
	n := c.PageWords * c.Pages
	h := api.Heap{Conf: c, Words: make([]uint64, n+3), Pages: make([]api.Page, c.Pages+2), Bump: -1}
	for i := range h.Words {
		h.Words[i] = other(i)
	}
	h.Pages[c.Pages].Kind, h.Pages[c.Pages+1].Kind = 77, 77
	h.Words, h.Pages = h.Words[:n], h.Pages[:c.Pages]
	var l []thing
	for i, s := range sheets {
		if s.kind == api.SmallPage || s.kind == api.LargePage {
			h.Pages[i] = api.Page{Kind: s.kind, Space: i % 2, Pins: i}
		}
		for _, hd := range s.l {
			at := i*c.PageWords + h.Pages[i].Used
			h.Words[at] = word(hd)
			h.Pages[i].Used += hd.Length + 1
			l = append(l, thing{i, 4096 + uint64(at), hd})
		}
		for j := 1; s.kind == api.LargePage && j*c.PageWords < h.Pages[i].Used; j++ {
			h.Pages[i+j] = api.Page{Kind: api.TailPage, Space: i % 2}
		}
	}
	return h, l
}

var conf = api.Conf{PageWords: 16, Pages: 8}

// ordinary returns a heap with each kind of page.
func ordinary() (api.Heap, []thing) {
	return build(conf,
		small(words(3), record(2, 2), filler(1), refs(0), record(0, 0), filler(0), refs(3)), // up to its end
		small(filler(0), filler(2), words(0), words(1)),
		large(words(39)), sheet{}, sheet{},
		sheet{},
		small(),
		large(refs(4)),
	)
}

// heaps returns what checks look at: heaps at the limits of what chapter 4
// allows, and irregular ones.
func heaps() []func() (api.Heap, []thing) {
	wide := api.Conf{PageWords: 64, Pages: 64}
	l := []func() (api.Heap, []thing){
		ordinary,
		func() (api.Heap, []thing) { return build(conf) },
		func() (api.Heap, []thing) { return build(conf, small(), small(filler(15)), small(words(15))) },
		func() (api.Heap, []thing) {
			return build(conf, large(filler(63)), sheet{}, sheet{}, sheet{}, large(words(63)))
		},
		func() (api.Heap, []thing) {
			return build(wide, small(words(63)), small(slices.Repeat([]api.Header{words(0)}, 64)...), large(words(255)))
		},
		func() (api.Heap, []thing) {
			return build(wide, append(slices.Repeat([]sheet{{}}, 60), large(refs(255)))...)
		},
	}
	for seed := range 40 {
		l = append(l, func() (api.Heap, []thing) { return irregular(numbers(seed + 1)) })
	}
	return l
}

// numbers is a sequence of numbers that look irregular, the same ones in each
// run.
type numbers uint64

// below returns a number from 0 to n-1.
func (x *numbers) below(n int) int {
	*x ^= *x << 13
	*x ^= *x >> 7
	*x ^= *x << 17
	return int(uint64(*x) % uint64(n))
}

// header returns a header of at most so many words.
func (x *numbers) header(most int) api.Header {
	n := x.below(most)
	switch x.below(4) {
	case 0:
		return filler(n)
	case 1:
		n = min(n, 32)
		return record(n, uint32(x.below(1<<n)))
	case 2:
		return refs(n)
	}
	return words(n)
}

// irregular returns a heap whose pages are anything.
func irregular(x numbers) (api.Heap, []thing) {
	c := api.Conf{PageWords: 16 + 4*x.below(13), Pages: 8 + x.below(57)}
	var sheets []sheet
	for len(sheets) < c.Pages {
		switch x.below(4) {
		case 0:
			sheets = append(sheets, sheet{})
		case 1:
			k := min(1+x.below(4), c.Pages-len(sheets))
			n := max((k-1)*c.PageWords+1, c.PageWords/4+1) + x.below(c.PageWords/2)
			sheets = append(sheets, large(words(n-1)))
			sheets = append(sheets, make([]sheet, k-1)...)
		default:
			sheets = append(sheets, x.filled(c.PageWords))
		}
	}
	return build(c, sheets...)
}

// filled returns a SmallPage with irregular things.
func (x *numbers) filled(left int) sheet {
	s := small()
	for left > 0 && x.below(8) > 0 {
		hd := x.header(min(left, 1+x.below(8)))
		s.l = append(s.l, hd)
		left -= hd.Length + 1
	}
	return s
}

// addresses returns the addresses of the things for which wanted is true.
func addresses(l []thing, wanted func(thing) bool) []uint64 {
	var addrs []uint64
	for _, x := range l {
		if wanted(x) {
			addrs = append(addrs, x.addr)
		}
	}
	return addrs
}

func every(thing) bool       { return true }
func notFiller(x thing) bool { return x.hd.Kind != 0 }

// census counts things as the chapter says.
func census(h api.Heap, l []thing) Census {
	var c Census
	for _, x := range l {
		if notFiller(x) {
			c.Objects, c.ObjectWords = c.Objects+1, c.ObjectWords+x.hd.Length+1
		} else {
			c.Fillers, c.FillerWords = c.Fillers+1, c.FillerWords+x.hd.Length+1
		}
	}
	for _, p := range h.Pages {
		if p == (api.Page{}) {
			c.Free++
		}
	}
	return c
}

// sameHeap reports whether two heaps are equal.
func sameHeap(a, b api.Heap) bool {
	return a.Conf == b.Conf && slices.Equal(a.Words, b.Words) && slices.Equal(a.Pages, b.Pages) && a.Space == b.Space && a.Bump == b.Bump
}

// snapshot returns a copy of a heap and of the memory behind its slices.
func snapshot(h api.Heap) api.Heap {
	h.Words = slices.Clone(h.Words[:cap(h.Words)])
	h.Pages = slices.Clone(h.Pages[:cap(h.Pages)])
	return h
}

// checkUnchanged fails if a heap is not as it was before.
func checkUnchanged(t *testing.T, h, before api.Heap) {
	t.Helper()
	if !sameHeap(snapshot(h), before) {
		t.Fatal("the argument has changed")
	}
}

// checkList compares a list and an error with what they have to be.
func checkList(t *testing.T, name string, got []uint64, e api.Errno, want []uint64, wantE api.Errno) {
	t.Helper()
	if !slices.Equal(got, want) || e != wantE {
		t.Fatalf("%s: %v, error %d, want %v, error %d", name, got, e, want, wantE)
	}
}

// checkHeap checks what all calls but Fill say of a heap with these things.
func checkHeap(t *testing.T, h api.Heap, l []thing) {
	t.Helper()
	before := snapshot(h)
	for i := range h.Pages {
		got, e := Page(h, i)
		checkList(t, "Page", got, e, addresses(l, func(x thing) bool { return x.page == i }), api.OK)
	}
	got, e := Starts(h)
	checkList(t, "Starts", got, e, addresses(l, every), api.OK)
	got, e = Objects(h)
	checkList(t, "Objects", got, e, addresses(l, notFiller), api.OK)
	if c, e := Count(h); c != census(h, l) || e != api.OK {
		t.Fatalf("Count: %v, error %d, want %v", c, e, census(h, l))
	}
	checkUnchanged(t, h, before)
}

// checkBroken checks what all calls but Fill say of a heap in which there is
// an error on a page, or which is not proper.
func checkBroken(t *testing.T, h api.Heap, i int, wantE api.Errno) {
	t.Helper()
	got, e := Page(h, i)
	checkList(t, "Page", got, e, nil, wantE)
	got, e = Starts(h)
	checkList(t, "Starts", got, e, nil, wantE)
	got, e = Objects(h)
	checkList(t, "Objects", got, e, nil, wantE)
	if c, e := Count(h); c != (Census{}) || e != wantE {
		t.Fatalf("Count: %v, error %d, want error %d", c, e, wantE)
	}
}

// 6.1, 6.2 and 6.4
func TestWalkThroughHeaps(t *testing.T) {
	for _, made := range heaps() {
		h, l := made()
		if !page.Proper(h) {
			t.Fatal("a heap of the tests is not proper")
		}
		checkHeap(t, h, l)
	}
}

// 6.1: written out.
func TestPage(t *testing.T) {
	h, _ := ordinary()
	for i, want := range [][]uint64{
		{4096, 4100, 4103, 4105, 4106, 4107, 4108}, {4112, 4113, 4116, 4117},
		{4128}, nil, nil, nil, nil, {4208},
	} {
		got, e := Page(h, i)
		checkList(t, "Page", got, e, want, api.OK)
	}
	for _, i := range []int{-1, 8, 9, 16, math.MinInt, math.MaxInt, 1 << 32, -1 << 32} {
		got, e := Page(h, i)
		checkList(t, "Page", got, e, nil, api.ErrRange)
	}
}

// 6.1: each Used of a SmallPage on which each word is the same header.
func TestPageUpToUsed(t *testing.T) {
	for used := range 17 {
		for size := 1; size <= 18; size++ {
			for _, hd := range []api.Header{filler(size - 1), record(size-1, 0), refs(size - 1), words(size - 1)} {
				h, _ := build(conf)
				h.Words = slices.Repeat([]uint64{word(hd)}, 128)
				h.Pages[3] = api.Page{Kind: api.SmallPage, Used: used}
				if used%size != 0 {
					checkBroken(t, h, 3, api.ErrCorrupt)
					continue
				}
				var l []thing
				for at := 0; at < used; at += size {
					l = append(l, thing{3, 4096 + 48 + uint64(at), hd})
				}
				checkHeap(t, h, l)
			}
		}
	}
}

// 6.1 and 6.2: a large object fills its LargePage, or there is an error.
func TestLargePages(t *testing.T) {
	for used := 5; used <= 64; used++ {
		for _, length := range []int{used - 5, used - 2, used - 1, used, 255} {
			for _, hd := range []api.Header{filler(length), refs(length), words(length)} {
				h, l := build(conf, sheet{}, large(words(used-1)))
				h.Words[16] = word(hd)
				l[0].hd = hd
				if length != used-1 {
					checkBroken(t, h, 1, api.ErrCorrupt)
				} else {
					checkHeap(t, h, l)
				}
			}
		}
	}
}

// noHeaders are words that are not headers.
var noHeaders = []uint64{
	0, 2, 3, 4096, 16386, // other tags, that of a forwarding word among them
	1 + 65536, 1 + 16*256, 1 + 4 + 16*33, 1 + 4 + 16*2 + 65536*4, 13 + 65536, // a Map or a Length that is not allowed
	1 << 48, 1<<48 + 13, 1<<63 + 13, math.MaxUint64,
}

// 6.1, 6.2 and 6.4: one header is none. Only its page has an error.
func TestWordsThatAreNoHeaders(t *testing.T) {
	_, l := ordinary()
	for k, x := range l {
		for _, w := range noHeaders {
			h, _ := ordinary()
			h.Words[x.addr-4096] = w
			checkBroken(t, h, x.page, api.ErrCorrupt)
			for _, y := range l {
				if IsObject(h, y.addr) {
					t.Fatalf("IsObject of %d, but thing %d is %#x", y.addr, k, w)
				}
			}
			for i := range h.Pages {
				if i != x.page {
					got, e := Page(h, i)
					checkList(t, "Page", got, e, addresses(l, func(y thing) bool { return y.page == i }), api.OK)
				}
			}
		}
	}
}

// 6.1 and 6.2: the last thing on a SmallPage ends behind Used, and errors on
// several pages.
func TestThingsBehindUsed(t *testing.T) {
	h, l := ordinary()
	h.Pages[1].Used--
	checkBroken(t, h, 1, api.ErrCorrupt)
	h.Pages[1].Used-- // words(1) is no longer on the page
	checkHeap(t, h, slices.Delete(slices.Clone(l), 10, 11))
	h.Words[0] = 0
	h.Pages[1].Used++
	checkBroken(t, h, 0, api.ErrCorrupt)
	checkBroken(t, h, 1, api.ErrCorrupt)
	h, _ = build(conf, small(words(16)))
	h.Pages[0].Used = 16 // the object has 17 words
	checkBroken(t, h, 0, api.ErrCorrupt)
	// Behind Used, no word matters.
	h, l = build(conf, small(words(2)))
	for _, w := range noHeaders {
		h.Words[3] = w
		checkHeap(t, h, l)
	}
}

// 6.2: at each address.
func TestIsObject(t *testing.T) {
	for _, made := range heaps() {
		h, l := made()
		before := snapshot(h)
		objects := addresses(l, notFiller)
		behind := 4096 + uint64(len(h.Words))
		step := 1 + behind/4300 // fewer addresses of great heaps, but those of all things
		probes := append(addresses(l, every), 0, 1, 4095, behind-1, behind, behind+1, 1<<32+4096, 1<<63, math.MaxUint64)
		for addr := uint64(4096); addr < behind; addr += step {
			probes = append(probes, addr)
		}
		for _, addr := range probes {
			if want := slices.Contains(objects, addr); IsObject(h, addr) != want {
				t.Fatalf("IsObject of %d: %t", addr, !want)
			}
		}
		checkUnchanged(t, h, before)
	}
}

// 6.2: written out.
func TestStartsAndObjects(t *testing.T) {
	h, _ := ordinary()
	got, e := Starts(h)
	checkList(t, "Starts", got, e, []uint64{4096, 4100, 4103, 4105, 4106, 4107, 4108, 4112, 4113, 4116, 4117, 4128, 4208}, api.OK)
	got, e = Objects(h)
	checkList(t, "Objects", got, e, []uint64{4096, 4100, 4105, 4106, 4108, 4116, 4117, 4128, 4208}, api.OK)
	for addr, want := range map[uint64]bool{
		4096: true, 4100: true, 4128: true, 4208: true,
		4103: false, 4107: false, 4112: false, // fillers
		4097: false, 4098: false, // fields; the words are a header and one of a filler
		4144: false, 4176: false, 4192: false, // a TailPage, a FreePage and an empty SmallPage
		0: false, 4095: false, 4224: false,
	} {
		if IsObject(h, addr) != want {
			t.Errorf("IsObject of %d: %t", addr, !want)
		}
	}
}

// fillings are numbers of words of a filler, and others.
var fillings = []int{math.MinInt, math.MinInt + 1, -1 << 32, -1, 0, 1, 2, 3, 16, 17, 127, 128, 129, 255, 256, 257, 1 << 32, 1<<32 + 1, math.MaxInt}

// modelFill is the chapter's definition of Fill in a proper heap.
func modelFill(h api.Heap, addr uint64, n int) (api.Heap, api.Errno) {
	if n < 1 || n > 256 {
		return api.Heap{}, api.ErrArg
	}
	if addr < 4096 || addr >= 4096+uint64(len(h.Words)) || addr+uint64(n) > 4096+uint64(len(h.Words)) {
		return api.Heap{}, api.ErrRange
	}
	h.Words = slices.Clone(h.Words)
	clear(h.Words[addr-4096:][:n])
	h.Words[addr-4096] = word(filler(n - 1))
	return h, api.OK
}

// 6.3: at each address, whatever is there.
func TestFill(t *testing.T) {
	broken, _ := ordinary()
	broken.Words[0] = 0
	h, _ := ordinary()
	wide, _ := build(api.Conf{PageWords: 64, Pages: 8}, small(words(3)), large(refs(99)))
	for _, h := range []api.Heap{h, wide, broken} {
		before := snapshot(h)
		behind := 4096 + uint64(len(h.Words))
		probes := []uint64{0, 1, 4095, behind, behind + 1, 1<<32 + 4096, 1 << 63, math.MaxUint64 - 1, math.MaxUint64}
		for addr := uint64(4096); addr < behind; addr++ {
			probes = append(probes, addr)
		}
		for _, addr := range probes {
			for _, n := range fillings {
				want, wantE := modelFill(h, addr, n)
				if got, e := Fill(h, addr, n); !sameHeap(got, want) || e != wantE {
					t.Fatalf("Fill of %d words at %d: error %d, want %d, or another heap", n, addr, e, wantE)
				}
			}
		}
		checkUnchanged(t, h, before)
	}
}

// 6.3: written out.
func TestFillAtTheLimits(t *testing.T) {
	for _, x := range []struct {
		addr uint64
		n    int
		e    api.Errno
	}{
		{4096, 1, api.OK}, {4096, 256, api.OK}, {4096, 0, api.ErrArg}, {4096, 257, api.ErrArg}, {4096, -1, api.ErrArg},
		{4352, 256, api.OK}, {4353, 256, api.ErrRange}, {4353, 255, api.OK},
		{4607, 1, api.OK}, {4607, 2, api.ErrRange}, {4608, 1, api.ErrRange},
		{4095, 1, api.ErrRange}, {4095, 2, api.ErrRange}, {0, 1, api.ErrRange},
		{math.MaxUint64, 1, api.ErrRange}, {math.MaxUint64, 256, api.ErrRange},
		// ErrArg comes before ErrRange.
		{0, 0, api.ErrArg}, {4095, 257, api.ErrArg}, {4608, -1, api.ErrArg}, {4600, 257, api.ErrArg},
	} {
		h, _ := build(api.Conf{PageWords: 64, Pages: 8})
		got, e := Fill(h, x.addr, x.n)
		if e != x.e || e != api.OK && !sameHeap(got, api.Heap{}) {
			t.Errorf("Fill of %d words at %d: error %d, want %d", x.n, x.addr, e, x.e)
		}
		if e == api.OK && got.Words[x.addr-4096] != 1+16*uint64(x.n-1) {
			t.Errorf("Fill of %d words at %d: %#x", x.n, x.addr, got.Words[x.addr-4096])
		}
	}
}

// 6.4: written out.
func TestCount(t *testing.T) {
	h, _ := ordinary()
	if c, e := Count(h); c != (Census{Objects: 9, ObjectWords: 4 + 3 + 1 + 1 + 4 + 1 + 2 + 40 + 5, Fillers: 4, FillerWords: 2 + 1 + 1 + 3, Free: 1}) || e != api.OK {
		t.Errorf("%v, error %d", c, e)
	}
	h, _ = build(conf, large(words(48)))
	if c, e := Count(h); c != (Census{Objects: 1, ObjectWords: 49, Free: 4}) || e != api.OK {
		t.Errorf("%v, error %d", c, e)
	}
}

// 6.5: each pair of neighbours becomes one filler.
func TestNeighboursBecomeOneFiller(t *testing.T) {
	for _, made := range heaps() {
		h, l := made()
		for k := range len(l) - 1 {
			if l[k].page != l[k+1].page {
				continue
			}
			n := l[k].hd.Length + l[k+1].hd.Length + 2
			filled, e := Fill(h, l[k].addr, n)
			if e != api.OK {
				t.Fatalf("Fill of %d words at %d: error %d", n, l[k].addr, e)
			}
			left := slices.Delete(slices.Clone(l), k+1, k+2)
			left[k].hd = filler(n - 1)
			checkHeap(t, filled, left)
			checkThings(t, filled, h, left, k)
		}
	}
}

// checkThings checks that all things but thing k are the same in both heaps.
func checkThings(t *testing.T, got, want api.Heap, l []thing, k int) {
	t.Helper()
	for i, x := range l {
		from := x.addr - 4096
		to := from + uint64(x.hd.Length+1)
		if hd, e := object.At(got, x.addr); hd != x.hd || e != api.OK {
			t.Fatalf("thing %d: %v, error %d", i, hd, e)
		}
		if i != k && !slices.Equal(got.Words[from:to], want.Words[from:to]) {
			t.Fatalf("thing %d has changed", i)
		}
	}
}

// 6.5: pages that are filled step by step.
func TestFillersGrow(t *testing.T) {
	h, l := build(conf, small(slices.Repeat([]api.Header{words(0)}, 16)...), small(words(3)))
	for n := 1; n <= 16; n++ {
		h, e := Fill(h, 4096, n)
		if e != api.OK {
			t.Fatalf("Fill of %d words: error %d", n, e)
		}
		left := slices.Clone(l[n-1:])
		left[0] = thing{0, 4096, filler(n - 1)}
		checkHeap(t, h, left)
	}
}

// improper returns heaps that are not proper, each for another reason.
func improper() []api.Heap {
	l := []api.Heap{{}, {Bump: -1}, {Words: make([]uint64, 128), Pages: make([]api.Page, 8)}}
	for _, change := range []func(h *api.Heap){
		func(h *api.Heap) { h.Conf = api.Conf{} },
		func(h *api.Heap) { h.Conf.PageWords = 17 },
		func(h *api.Heap) { h.Conf.Pages = 9 },
		func(h *api.Heap) { h.Words = nil },
		func(h *api.Heap) { h.Words = h.Words[:127] },
		func(h *api.Heap) { h.Pages = nil },
		func(h *api.Heap) { h.Pages = h.Pages[:7] },
		func(h *api.Heap) { h.Space = 2 },
		func(h *api.Heap) { h.Bump = -2 },
		func(h *api.Heap) { h.Bump = 2 },
		func(h *api.Heap) { h.Pages[0].Kind = 4 },
		func(h *api.Heap) { h.Pages[0].Used = 17 },
		func(h *api.Heap) { h.Pages[4] = api.Page{} },
		func(h *api.Heap) { h.Pages[5].Used = 1 },
		func(h *api.Heap) { h.Pages[7].Space = -1 },
	} {
		h, _ := ordinary()
		change(&h)
		l = append(l, h)
	}
	return l
}

// 6.1 to 6.4: a heap that is not proper is the first error of all.
func TestImproperHeaps(t *testing.T) {
	for k, h := range improper() {
		before := snapshot(h)
		for _, i := range []int{0, 1, 7, 8, -1, math.MinInt, math.MaxInt} {
			checkBroken(t, h, i, api.ErrArg)
		}
		for _, addr := range []uint64{0, 4095, 4096, 4100, 4128, 4224, math.MaxUint64} {
			if IsObject(h, addr) {
				t.Errorf("heap %d: IsObject of %d", k, addr)
			}
			for _, n := range fillings {
				if got, e := Fill(h, addr, n); !sameHeap(got, api.Heap{}) || e != api.ErrArg {
					t.Errorf("heap %d: Fill of %d words at %d: error %d", k, n, addr, e)
				}
			}
		}
		checkUnchanged(t, h, before)
	}
}

// 6.1: ErrArg, ErrRange and ErrCorrupt apply at once.
func TestOrderOfErrorsOfPage(t *testing.T) {
	h, _ := ordinary()
	h.Words[0], h.Words[112] = 0, 0
	for _, i := range []int{-1, 8} {
		got, e := Page(h, i)
		checkList(t, "Page", got, e, nil, api.ErrRange)
	}
	h.Space = 2
	for _, i := range []int{-1, 0, 8} {
		got, e := Page(h, i)
		checkList(t, "Page", got, e, nil, api.ErrArg)
	}
}

// R4: nothing that is done to a result can be seen in an argument or in
// another result.
func TestResultsAreNewMemory(t *testing.T) {
	h, l := ordinary()
	before := snapshot(h)
	filled, _ := Fill(h, 4096, 4)
	clear(filled.Words[:cap(filled.Words)])
	clear(filled.Pages[:cap(filled.Pages)])
	first, _ := Page(h, 0)
	starts, _ := Starts(h)
	objects, _ := Objects(h)
	for _, result := range [][]uint64{first, starts, objects} {
		clear(result[:cap(result)])
	}
	checkUnchanged(t, h, before)
	checkHeap(t, h, l)
}

// All calls together, on objects that package object makes.
func TestWalkFromTheStart(t *testing.T) {
	h, _ := page.New(conf)
	h.Pages, _ = page.Small(h.Pages, 2, 0)
	var l []thing
	for _, hd := range []api.Header{words(3), record(3, 5), filler(2), refs(2)} {
		addr := uint64(4096 + 32 + h.Pages[2].Used)
		h, _ = object.Init(h, addr, hd)
		h.Pages[2].Used += header.Size(hd)
		l = append(l, thing{2, addr, hd})
		checkHeap(t, h, l)
	}
}

func TestExamples(t *testing.T) {
	h, _ := page.New(conf)
	if l, e := Objects(h); len(l) != 0 || e != api.OK {
		t.Errorf("Objects of an empty heap: %v, error %d", l, e)
	}
	if c, e := Count(h); c != (Census{Free: 8}) || e != api.OK {
		t.Errorf("Count of an empty heap: %v, error %d", c, e)
	}
}
