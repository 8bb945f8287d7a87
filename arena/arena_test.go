package arena

import (
	"math"
	"slices"
	"testing"

	"semispace/api"
)

// sizes are numbers of words: none, a few, as many as New returns, and more.
var sizes = []int{0, 1, 2, 3, 5, Max, Max + 1}

// counts are numbers of words to read or move, possible ones and others.
var counts = []int{math.MinInt, -Max, -1, 0, 1, 2, 3, 4, 5, 6, Max, Max + 1, Max + 2, 1 << 32, math.MaxInt}

// numbered returns n words that all differ from each other and from 0. The
// words between length and capacity are marks, which must stay.
func numbered(n int) []uint64 {
	words := make([]uint64, n+4)
	for i := range words {
		words[i] = 1000 + uint64(i)
	}
	return words[:n]
}

// written returns n words that are not among those of numbered.
func written(n int) []uint64 {
	l := numbered(n)
	for i := range l[:cap(l)] {
		l[:cap(l)][i] += 1 << 32
	}
	return l
}

// unchanged reports whether l and the memory behind it are as numbered made
// them, but for the offset of written.
func unchanged(l []uint64, offset uint64) bool {
	for i, v := range l[:cap(l)] {
		if v != offset+1000+uint64(i) {
			return false
		}
	}
	return true
}

// addresses are those around the first of n words and around the last one,
// and extreme ones.
func addresses(n int) []uint64 {
	l := []uint64{0, 1, math.MaxUint64, math.MaxUint64 - 1, math.MaxUint64 - api.Base, 1 << 63, 1<<63 - 1, 1 << 32}
	for d := range 10 {
		l = append(l, api.Base-4+uint64(d), api.Base+uint64(n)-4+uint64(d))
	}
	slices.Sort(l)
	return slices.Compact(l)
}

// exists reports whether one of n words has this address.
func exists(n int, addr uint64) bool {
	return addr >= api.Base && addr <= api.Base+uint64(n)-1 && n > 0
}

// outcome is the error that the chapter asks for where n words from addr on
// are read or written.
func outcome(size int, addr uint64, n int) api.Errno {
	if n < 0 {
		return api.ErrArg
	}
	if n == 0 {
		if exists(size, addr) || addr == api.Base+uint64(size) {
			return api.OK
		}
		return api.ErrRange
	}
	if n > size || !exists(size, addr) || !exists(size, addr+uint64(n)-1) {
		return api.ErrRange
	}
	return api.OK
}

// worse is the first of two errors in the chapter's order.
func worse(a, b api.Errno) api.Errno {
	if a == api.ErrArg || b == api.ErrArg {
		return api.ErrArg
	}
	if a == api.ErrRange || b == api.ErrRange {
		return api.ErrRange
	}
	return api.OK
}

// checkWords compares a call's words and error with what they have to be.
func checkWords(t *testing.T, got []uint64, e api.Errno, want []uint64, wantE api.Errno) {
	t.Helper()
	if wantE != api.OK {
		want = nil
	}
	if e != wantE || !slices.Equal(got, want) {
		if len(got)+len(want) > 20 {
			t.Fatalf("error %d, want %d, or other words", e, wantE)
		}
		t.Fatalf("%v, error %d, want %v, error %d", got, e, want, wantE)
	}
}

// 2.1
func TestNewReturnsWords0(t *testing.T) {
	for _, n := range []int{0, 1, 2, 17, Max - 1, Max} {
		words, e := New(n)
		checkWords(t, words, e, slices.Repeat([]uint64{0}, n), api.OK)
	}
}

// 2.1
func TestNewOutOfRange(t *testing.T) {
	for _, n := range []int{math.MinInt, -Max, -1, Max + 1, 1 << 32, math.MaxInt} {
		words, e := New(n)
		checkWords(t, words, e, nil, api.ErrArg)
	}
}

// 2.1
func TestNewReturnsNewMemory(t *testing.T) {
	first, _ := New(3)
	first[1] = 5
	second, e := New(3)
	checkWords(t, second, e, []uint64{0, 0, 0}, api.OK)
}

// The limit is part of the chapter's API.
func TestMax(t *testing.T) {
	if Max != 4096 {
		t.Errorf("Max = %d", Max)
	}
}

// 2.1
func TestIndexOfEveryWord(t *testing.T) {
	for _, n := range sizes {
		words := numbered(n)
		for i := range n {
			if got, e := Index(words, api.Base+uint64(i)); got != i || e != api.OK {
				t.Fatalf("Index of word %d of %d: %d, error %d", i, n, got, e)
			}
		}
	}
}

// 2.1
func TestIndexWhereThereIsNoWord(t *testing.T) {
	for _, n := range sizes {
		words := numbered(n)
		for _, addr := range addresses(n) {
			got, e := Index(words, addr)
			if exists(n, addr) != (e == api.OK) || e != api.OK && (got != 0 || e != api.ErrRange) {
				t.Errorf("Index of %d in %d words: %d, error %d", addr, n, got, e)
			}
		}
	}
}

// 2.1 and 2.2
func TestNoWordsAtAll(t *testing.T) {
	if got, e := Index(nil, api.Base); got != 0 || e != api.ErrRange {
		t.Errorf("Index: %d, error %d", got, e)
	}
	if got, e := Load(nil, api.Base); got != 0 || e != api.ErrRange {
		t.Errorf("Load: %d, error %d", got, e)
	}
	got, e := Store(nil, api.Base, 1)
	checkWords(t, got, e, nil, api.ErrRange)
	got, e = Read(nil, api.Base, 0)
	checkWords(t, got, e, nil, api.OK)
	got, e = Read(nil, api.Base, 1)
	checkWords(t, got, e, nil, api.ErrRange)
	got, e = Write(nil, api.Base, nil)
	checkWords(t, got, e, nil, api.OK)
	got, e = Write(nil, api.Base, []uint64{1})
	checkWords(t, got, e, nil, api.ErrRange)
	got, e = Move(nil, api.Base, api.Base, 0)
	checkWords(t, got, e, nil, api.OK)
	got, e = Move(nil, api.Base, api.Base, 1)
	checkWords(t, got, e, nil, api.ErrRange)
}

// 2.2
func TestLoad(t *testing.T) {
	for _, n := range sizes {
		words := numbered(n)
		for _, addr := range addresses(n) {
			want, wantE := uint64(0), api.ErrRange
			if exists(n, addr) {
				want, wantE = words[addr-api.Base], api.OK
			}
			if got, e := Load(words, addr); got != want || e != wantE {
				t.Errorf("Load of %d in %d words: %d, error %d, want %d, error %d", addr, n, got, e, want, wantE)
			}
		}
	}
}

// 2.2
func TestLoadedAndStoredWordsHaveAnyValue(t *testing.T) {
	for _, v := range []uint64{0, 1, 1 << 63, math.MaxUint64} {
		words, e := Store([]uint64{7, 8, 9}, api.Base+1, v)
		checkWords(t, words, e, []uint64{7, v, 9}, api.OK)
		if got, e := Load(words, api.Base+1); got != v || e != api.OK {
			t.Errorf("Load: %d, error %d, want %d", got, e, v)
		}
	}
}

// 2.2 and 2.3
func TestStore(t *testing.T) {
	for _, n := range sizes {
		words := numbered(n)
		for _, addr := range addresses(n) {
			want, wantE := slices.Clone(words), api.ErrRange
			if exists(n, addr) {
				want[addr-api.Base], wantE = 3, api.OK
			}
			got, e := Store(words, addr, 3)
			checkWords(t, got, e, want, wantE)
			checkUnchanged(t, words)
		}
	}
}

// checkUnchanged fails if an argument made by numbered, or the memory behind
// it, is not as it was.
func checkUnchanged(t *testing.T, words []uint64) {
	t.Helper()
	if !unchanged(words, 0) {
		t.Fatal("the argument has changed")
	}
}

// 2.2 and 2.3
func TestRead(t *testing.T) {
	for _, size := range sizes {
		words := numbered(size)
		for _, addr := range addresses(size) {
			for _, n := range counts {
				wantE := outcome(size, addr, n)
				var want []uint64
				for i := 0; wantE == api.OK && i < n; i++ {
					want = append(want, words[addr-api.Base+uint64(i)])
				}
				got, e := Read(words, addr, n)
				checkWords(t, got, e, want, wantE)
				checkUnchanged(t, words)
			}
		}
	}
}

// 2.2 and 2.3
func TestWrite(t *testing.T) {
	for _, size := range sizes {
		words := numbered(size)
		for _, addr := range addresses(size) {
			for _, n := range []int{0, 1, 2, 3, 4, 5, 6, Max, Max + 1, Max + 2} {
				l := written(n)
				wantE := outcome(size, addr, n)
				want := slices.Clone(words)
				for i := 0; wantE == api.OK && i < n; i++ {
					want[addr-api.Base+uint64(i)] = l[i]
				}
				got, e := Write(words, addr, l)
				checkWords(t, got, e, want, wantE)
				checkUnchanged(t, words)
				if !unchanged(l, 1<<32) {
					t.Fatal("the written words have changed")
				}
			}
		}
	}
}

// moved is what Move has to return: every word is read before one is written.
func moved(words []uint64, to, from uint64, n int) []uint64 {
	want := slices.Clone(words)
	for i := range n {
		want[to-api.Base+uint64(i)] = words[from-api.Base+uint64(i)]
	}
	return want
}

// 2.2 and 2.3: every pair of ranges, overlapping ones in both directions.
func TestMove(t *testing.T) {
	for _, size := range []int{0, 1, 2, 3, 5, 8} {
		words := numbered(size)
		for _, to := range addresses(size) {
			for _, from := range addresses(size) {
				for _, n := range counts {
					wantE := worse(outcome(size, to, n), outcome(size, from, n))
					var want []uint64
					if wantE == api.OK {
						want = moved(words, to, from, n)
					}
					got, e := Move(words, to, from, n)
					checkWords(t, got, e, want, wantE)
					checkUnchanged(t, words)
				}
			}
		}
	}
}

// 2.2 and 2.3
func TestMoveOfManyOverlappingWords(t *testing.T) {
	words := numbered(Max)
	for _, n := range []int{Max, Max - 1, Max - 2, Max - 100, Max / 2} {
		last := api.Base + uint64(Max-n)
		for _, pair := range [][2]uint64{{api.Base, last}, {last, api.Base}, {last, last}} {
			got, e := Move(words, pair[0], pair[1], n)
			checkWords(t, got, e, moved(words, pair[0], pair[1], n), api.OK)
			checkUnchanged(t, words)
		}
	}
}

// 2.2: ErrArg comes before ErrRange.
func TestNegativeCountOutsideTheWords(t *testing.T) {
	words := numbered(2)
	for _, n := range []int{-1, math.MinInt} {
		for _, addr := range addresses(2) {
			got, e := Read(words, addr, n)
			checkWords(t, got, e, nil, api.ErrArg)
			got, e = Move(words, addr, api.Base, n)
			checkWords(t, got, e, nil, api.ErrArg)
			got, e = Move(words, api.Base, addr, n)
			checkWords(t, got, e, nil, api.ErrArg)
		}
	}
}

// 2.2: with no words, the address directly behind the last one is allowed.
func TestNothingToReadOrWrite(t *testing.T) {
	words := numbered(3)
	for addr, wantE := range map[uint64]api.Errno{
		0: api.ErrRange, api.Base - 1: api.ErrRange, api.Base: api.OK, api.Base + 2: api.OK,
		api.Base + 3: api.OK, api.Base + 4: api.ErrRange, math.MaxUint64: api.ErrRange,
	} {
		got, e := Read(words, addr, 0)
		checkWords(t, got, e, nil, wantE)
		got, e = Write(words, addr, nil)
		checkWords(t, got, e, words, wantE)
		got, e = Write(words, addr, []uint64{})
		checkWords(t, got, e, words, wantE)
		got, e = Move(words, addr, api.Base+3, 0)
		checkWords(t, got, e, words, wantE)
		got, e = Move(words, api.Base+3, addr, 0)
		checkWords(t, got, e, words, wantE)
	}
}

// 2.2: the written words may be some of those that they replace.
func TestWriteOfItsOwnWords(t *testing.T) {
	words := []uint64{1, 2, 3, 4}
	got, e := Write(words, api.Base+1, words[:3])
	checkWords(t, got, e, []uint64{1, 1, 2, 3}, api.OK)
	checkWords(t, words, api.OK, []uint64{1, 2, 3, 4}, api.OK)
}

// 2.3 and R4: nothing that is done to a result can be seen in an argument.
func TestResultsAreNewMemory(t *testing.T) {
	words, l := numbered(3), written(2)
	read, _ := Read(words, api.Base, 2)
	stored, _ := Store(words, api.Base, 1)
	replaced, _ := Write(words, api.Base, l)
	unreplaced, _ := Write(words, api.Base, nil)
	unmoved, _ := Move(words, api.Base, api.Base, 0)
	for _, result := range [][]uint64{read, stored, replaced, unreplaced, unmoved} {
		full := result[:cap(result)]
		clear(full)
	}
	checkUnchanged(t, words)
	if !unchanged(l, 1<<32) {
		t.Error("the written words have changed")
	}
}

func TestExamples(t *testing.T) {
	if got, e := Load([]uint64{7, 8}, 4097); got != 8 || e != api.OK {
		t.Errorf("Load at 4097: %d, error %d", got, e)
	}
	if got, e := Load([]uint64{7, 8}, 4098); got != 0 || e != api.ErrRange {
		t.Errorf("Load at 4098: %d, error %d", got, e)
	}
	got, e := Move([]uint64{1, 2, 3}, 4097, 4096, 2)
	checkWords(t, got, e, []uint64{1, 1, 2}, api.OK)
}
