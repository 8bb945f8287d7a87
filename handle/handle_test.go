package handle_test

import (
	"math"
	"slices"
	"testing"

	"semispace/api"
	"semispace/handle"
	"semispace/heaptest"
)

const (
	lastIndex = 65535
	lastStamp = 4294967295
)

// tags are all tags and numbers that are none, among them some that differ from
// a tag only in the bits that a word has no room for.
var tags = []int{
	api.Local, api.Global, api.Weak,
	0, -1, -2, -3, 4, 5, 6, 7, 8, 1 << 32, 1<<32 + 1, 1<<62 + 2, math.MinInt, math.MinInt + 1, math.MaxInt,
}

// numbers are those around 0 and around every power of 2, positive and negative.
// The first and the last Index and Stamp are among them.
func numbers() []int {
	l := []int{math.MinInt, math.MinInt + 1, math.MinInt + 2, math.MaxInt, math.MaxInt - 1, 41, 4096, 65000, 305419896}
	for i := range 62 {
		for d := range 3 {
			l = append(l, 1<<i+d-1, -1<<i+d-1)
		}
	}
	slices.Sort(l)
	return slices.Compact(l)
}

// combinations calls look with all combinations of tags and numbers.
func combinations(look func(h api.Handle)) {
	list := numbers()
	for _, tag := range tags {
		for _, index := range list {
			for _, stamp := range list {
				look(api.Handle{Tag: tag, Index: index, Stamp: stamp})
			}
		}
	}
}

// isValid is the chapter's definition of a valid handle, with its limits
// written out.
func isValid(h api.Handle) bool {
	return (h.Tag == 1 || h.Tag == 2 || h.Tag == 3) &&
		h.Index > -1 && h.Index < 65536 && h.Stamp > 0 && h.Stamp < 4294967296
}

// word is the chapter's word of a valid handle, in numbers instead of bits.
func word(h api.Handle) uint64 {
	return uint64(h.Tag) + 4*uint64(h.Index) + 262144*uint64(h.Stamp)
}

// decoded is the chapter's result for a word: the handle whose word it is, if
// that handle is valid.
func decoded(w uint64) (api.Handle, api.Errno) {
	h := api.Handle{Tag: int(w % 4), Index: int(w / 4 % 65536), Stamp: int(w / 262144)}
	if w == 0 {
		return api.Handle{}, api.ErrNull
	}
	if !isValid(h) || word(h) != w {
		return api.Handle{}, api.ErrForged
	}
	return h, api.OK
}

// checkDecode compares Decode of a word with the definition.
func checkDecode(t *testing.T, w uint64) {
	t.Helper()
	want, wantError := decoded(w)
	if h, e := handle.Decode(w); h != want || e != wantError {
		t.Fatalf("Decode of %#x: %v, error %d, want %v, error %d", w, h, e, want, wantError)
	}
}

// 16.1
func TestValid(t *testing.T) {
	combinations(func(h api.Handle) {
		if ok := handle.Valid(h); ok != isValid(h) {
			t.Fatalf("Valid of %v: %v", h, ok)
		}
	})
}

// 16.1, 16.2: words of all combinations of tags and numbers, and back.
func TestEncodeAndDecode(t *testing.T) {
	combinations(func(h api.Handle) {
		want, wantError := uint64(0), api.ErrArg
		if isValid(h) {
			want, wantError = word(h), api.OK
		}
		w, e := handle.Encode(h)
		if w != want || e != wantError {
			t.Fatalf("Encode of %v: %d, error %d, want %d, error %d", h, w, e, want, wantError)
		}
		if back, e := handle.Decode(w); wantError == api.OK && (back != h || e != api.OK) {
			t.Fatalf("Decode of the word %d of %v: %v, error %d", w, h, back, e)
		}
	})
}

// 16.1, 16.2: handles that are valid and their words, written out.
func TestHandlesAndWords(t *testing.T) {
	for _, x := range []struct {
		h api.Handle
		w uint64
	}{
		{api.Handle{Tag: api.Local, Index: 0, Stamp: 1}, 262145},
		{api.Handle{Tag: api.Global, Index: 0, Stamp: 1}, 262146},
		{api.Handle{Tag: api.Weak, Index: 0, Stamp: 1}, 262147},
		{api.Handle{Tag: api.Local, Index: 1, Stamp: 1}, 262149},
		{api.Handle{Tag: api.Global, Index: 5, Stamp: 2}, 2<<18 | 5<<2 | 2},
		{api.Handle{Tag: api.Weak, Index: lastIndex, Stamp: 1}, 0x7ffff},
		{api.Handle{Tag: api.Local, Index: lastIndex - 1, Stamp: 1}, 0x7fff9},
		{api.Handle{Tag: api.Local, Index: 1 << 15, Stamp: 3}, 3<<18 | 1<<17 | 1},
		{api.Handle{Tag: api.Local, Index: 0, Stamp: 1 << 31}, 1<<49 | 1},
		{api.Handle{Tag: api.Local, Index: 0, Stamp: lastStamp}, 0x3fffffffc0001},
		{api.Handle{Tag: api.Global, Index: 0, Stamp: lastStamp - 1}, 0x3fffffff80002},
		{api.Handle{Tag: api.Local, Index: lastIndex, Stamp: lastStamp}, 1<<50 - 3},
		{api.Handle{Tag: api.Global, Index: lastIndex, Stamp: lastStamp}, 1<<50 - 2},
		{api.Handle{Tag: api.Weak, Index: lastIndex, Stamp: lastStamp}, 1<<50 - 1},
		// More than there are of them: neither MaxStamps nor MaxTable matters here.
		{api.Handle{Tag: api.Local, Index: 4096, Stamp: 4097}, 4097<<18 | 4096<<2 | 1},
		{api.Handle{Tag: api.Weak, Index: 64, Stamp: 9}, 9<<18 | 64<<2 | 3},
	} {
		if !handle.Valid(x.h) {
			t.Errorf("%v is not valid", x.h)
		}
		if w, e := handle.Encode(x.h); w != x.w || e != api.OK {
			t.Errorf("Encode of %v: %#x, error %d, want %#x", x.h, w, e, x.w)
		}
		if h, e := handle.Decode(x.w); h != x.h || e != api.OK {
			t.Errorf("Decode of %#x: %v, error %d, want %v", x.w, h, e, x.h)
		}
	}
}

// 16.1: handles that are not valid, written out.
func TestHandlesThatAreNotValid(t *testing.T) {
	for _, h := range []api.Handle{
		{},
		{Stamp: 1}, {Index: 3, Stamp: 7}, {Tag: 4, Stamp: 1}, {Tag: -1, Stamp: 1}, // the Tag
		{Tag: 5, Stamp: 1}, {Tag: -3, Stamp: 1}, {Tag: 1<<32 + 1, Stamp: 1}, {Tag: math.MinInt + 1, Stamp: 1},
		{Tag: api.Local, Index: -1, Stamp: 1}, {Tag: api.Global, Index: -1, Stamp: 1}, {Tag: api.Weak, Index: -1, Stamp: 1}, // the Index
		{Tag: api.Local, Index: lastIndex + 1, Stamp: 1}, {Tag: api.Global, Index: lastIndex + 1, Stamp: 1}, {Tag: api.Weak, Index: lastIndex + 1, Stamp: 1},
		{Tag: api.Local, Index: math.MinInt, Stamp: 1}, {Tag: api.Local, Index: math.MaxInt, Stamp: 1},
		{Tag: api.Local}, {Tag: api.Global}, {Tag: api.Weak}, // the Stamp
		{Tag: api.Local, Stamp: -1}, {Tag: api.Global, Stamp: -1}, {Tag: api.Weak, Stamp: -1},
		{Tag: api.Local, Stamp: lastStamp + 1}, {Tag: api.Global, Stamp: lastStamp + 1}, {Tag: api.Weak, Stamp: lastStamp + 1},
		{Tag: api.Local, Stamp: lastStamp + 2}, {Tag: api.Local, Stamp: math.MinInt}, {Tag: api.Local, Stamp: math.MaxInt},
		{Index: lastIndex + 1, Stamp: 1}, {Tag: 4, Index: -1, Stamp: 1}, {Tag: api.Weak, Index: -1}, {Tag: 4, Index: lastIndex + 1, Stamp: lastStamp + 1}, // several
	} {
		if handle.Valid(h) {
			t.Errorf("%v is valid", h)
		}
		if w, e := handle.Encode(h); w != 0 || e != api.ErrArg {
			t.Errorf("Encode of %v: %#x, error %d", h, w, e)
		}
	}
}

// 16.2: words that no handle has, written out. There is no handle for 0 either,
// but it has its own error, which comes first.
func TestWordsOfNoHandle(t *testing.T) {
	if h, e := handle.Decode(0); h != (api.Handle{}) || e != api.ErrNull {
		t.Errorf("Decode of 0: %v, error %d", h, e)
	}
	for _, w := range []uint64{
		1, 2, 3, // no Stamp
		1<<2 | 1, 1<<17 | 2, 1<<18 - 1,
		4, 1 << 17, 1<<18 - 4, // no Tag either
		1 << 18, 1 << 49, 1<<18 | 1<<2, 262145 - 1, 1<<50 - 4, // no Tag
		1<<50 | 262145, 1<<51 | 262146, 1<<63 | 262147, 1<<50 | 1<<18 | 1, 1 << 50, 1 << 63, // a bit above the Stamp
		1<<51 - 1, 1<<50 | 1, math.MaxUint64, math.MaxUint64 - 3, math.MaxUint64 - (1<<18 - 1),
		api.Base, api.Base + 1, api.Base + 3, 5001, // addresses
	} {
		if h, e := handle.Decode(w); h != (api.Handle{}) || e != api.ErrForged {
			t.Errorf("Decode of %#x: %v, error %d", w, h, e)
		}
	}
}

// 16.2: all words up to some Stamps, each also with one of the bits above.
func TestDecodeOfLowWords(t *testing.T) {
	for w := range uint64(1 << 20) {
		checkDecode(t, w)
		checkDecode(t, w|1<<(20+w%44))
	}
	for w := range uint64(1 << 10) {
		for i := range 64 {
			checkDecode(t, w|1<<i)
			checkDecode(t, w<<40|1<<i)
			checkDecode(t, w<<54|1<<i)
		}
	}
}

// 16.2: words that differ from a handle's in one bit or two.
func TestDecodeOfChangedWords(t *testing.T) {
	for _, tag := range []int{api.Local, api.Global, api.Weak} {
		for _, index := range []int{0, 1, 40, 1 << 15, lastIndex - 1, lastIndex} {
			for _, stamp := range []int{1, 2, 700, 1 << 31, lastStamp - 1, lastStamp} {
				w := word(api.Handle{Tag: tag, Index: index, Stamp: stamp})
				for i := range 64 {
					for k := range 64 {
						checkDecode(t, w^1<<i^1<<k)
					}
				}
			}
		}
	}
}

// 16.1, 16.2: irregular handles and words, there and back.
func TestIrregularHandles(t *testing.T) {
	x := heaptest.Numbers(16)
	for range 100000 {
		h := api.Handle{Tag: 1 + x.Below(3), Index: x.Below(lastIndex + 1), Stamp: 1 + x.Below(lastStamp)}
		w, e := handle.Encode(h)
		if w != word(h) || e != api.OK {
			t.Fatalf("Encode of %v: %#x, error %d", h, w, e)
		}
		if back, e := handle.Decode(w); back != h || e != api.OK {
			t.Fatalf("Decode of %#x: %v, error %d, want %v", w, back, e, h)
		}
		w = uint64(x.Below(1 << (1 + x.Below(52))))
		checkDecode(t, w)
		if h, e := handle.Decode(w); e == api.OK {
			if back, e := handle.Encode(h); back != w || e != api.OK {
				t.Fatalf("Encode of %v: %#x, error %d, want %#x", h, back, e, w)
			}
		}
	}
}

func TestExamples(t *testing.T) {
	h := api.Handle{Tag: api.Local, Index: 0, Stamp: 1}
	if w, e := handle.Encode(h); w != 262145 || e != api.OK {
		t.Errorf("Encode: %d, error %d", w, e)
	}
	if got, e := handle.Decode(262145); got != h || e != api.OK {
		t.Errorf("Decode: %v, error %d", got, e)
	}
	if got, e := handle.Decode(4); got != (api.Handle{}) || e != api.ErrForged {
		t.Errorf("Decode of 4: %v, error %d", got, e)
	}
}
