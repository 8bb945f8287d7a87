package header

import (
	"math"
	"slices"
	"testing"

	"semispace/api"
)

// kinds are all kinds and numbers that are none, among them some that differ
// from a kind only in the bits that a word has no room for.
var kinds = []int{
	api.Filler, api.Record, api.Refs, api.Words,
	-1, 4, 5, 6, 7, 8, -4, -3, 1 << 32, 1<<32 + 1, 1<<62 + 2, math.MaxInt, math.MinInt, math.MinInt + 1,
}

// lengths are those around every limit, and extreme ones.
func lengths() []int {
	l := []int{math.MinInt, math.MinInt + 1, -4096, math.MaxInt, 1 << 12, 1<<12 + 1, 1<<32 + 2, 1 << 62}
	for d := range 5 {
		l = append(l, d-2, api.MaxFields-2+d, api.MaxLength-2+d)
	}
	slices.Sort(l)
	return slices.Compact(l)
}

// maps are those around every power of 2.
func maps() []uint32 {
	l := []uint32{0, 5, 0xaaaaaaaa, 0x55555555}
	for i := range 32 {
		l = append(l, 1<<i-1, 1<<i, 1<<i+1)
	}
	l = append(l, math.MaxUint32, math.MaxUint32-1)
	slices.Sort(l)
	return slices.Compact(l)
}

// headers are all combinations of kinds, lengths and maps.
func headers() []api.Header {
	var l []api.Header
	for _, kind := range kinds {
		for _, length := range lengths() {
			for _, m := range maps() {
				l = append(l, api.Header{Kind: kind, Length: length, Map: m})
			}
		}
	}
	return l
}

// allowed is the chapter's definition of a valid header, with the greatest
// Map of a Record by repeated doubling.
func allowed(h api.Header) bool {
	if h.Kind < 0 || h.Kind > 3 || h.Length < 0 || h.Length > 255 {
		return false
	}
	if h.Kind != 1 {
		return h.Map == 0
	}
	if h.Length > 32 {
		return false
	}
	tooGreat := uint64(1)
	for range h.Length {
		tooGreat *= 2
	}
	return uint64(h.Map) < tooGreat
}

// word is the chapter's word of a valid header, in numbers instead of bits.
func word(h api.Header) uint64 {
	return 1 + 4*uint64(h.Kind) + 16*uint64(h.Length) + 65536*uint64(h.Map)
}

// isPointer is the chapter's definition of a pointer field.
func isPointer(h api.Header, i int) bool {
	if !allowed(h) || i < 0 || i > h.Length-1 {
		return false
	}
	if h.Kind == 2 {
		return true
	}
	m := uint64(h.Map)
	for range i {
		m /= 2
	}
	return h.Kind == 1 && m%2 == 1
}

// 3.1
func TestValid(t *testing.T) {
	for _, h := range headers() {
		if got := Valid(h); got != allowed(h) {
			t.Errorf("Valid of %v: %v", h, got)
		}
	}
}

// 3.1: the edge cases, written out.
func TestValidAtTheLimits(t *testing.T) {
	for h, want := range map[api.Header]bool{
		{}:                                   true,
		{Kind: api.Filler, Length: -1}:       false,
		{Kind: api.Filler, Length: 255}:      true,
		{Kind: api.Filler, Length: 256}:      false,
		{Kind: api.Filler, Map: 1}:           false,
		{Kind: api.Refs, Length: 0}:          true,
		{Kind: api.Refs, Length: -1}:         false,
		{Kind: api.Refs, Length: 255}:        true,
		{Kind: api.Refs, Length: 256}:        false,
		{Kind: api.Refs, Length: 2, Map: 1}:  false,
		{Kind: api.Words, Length: 0}:         true,
		{Kind: api.Words, Length: -1}:        false,
		{Kind: api.Words, Length: 33}:        true,
		{Kind: api.Words, Length: 255}:       true,
		{Kind: api.Words, Length: 256}:       false,
		{Kind: api.Words, Length: 2, Map: 3}: false,
		{Kind: api.Record, Length: -1}:       false,
		{Kind: api.Record, Length: 0}:        true,
		{Kind: api.Record, Length: 32}:       true,
		{Kind: api.Record, Length: 33}:       false,
		{Kind: api.Record, Length: 255}:      false,
		{Kind: api.Record, Length: 256}:      false,

		{Kind: api.Record, Length: 0, Map: 1}:               false,
		{Kind: api.Record, Length: 1, Map: 1}:               true,
		{Kind: api.Record, Length: 1, Map: 2}:               false,
		{Kind: api.Record, Length: 5, Map: 31}:              true,
		{Kind: api.Record, Length: 5, Map: 32}:              false,
		{Kind: api.Record, Length: 31, Map: 1<<31 - 1}:      true,
		{Kind: api.Record, Length: 31, Map: 1 << 31}:        false,
		{Kind: api.Record, Length: 32, Map: math.MaxUint32}: true,
		{Kind: api.Record, Length: 33, Map: 1}:              false,
		{Kind: -1}:                                          false,
		{Kind: 4}:                                           false,
		{Kind: -3, Length: 2, Map: 1}:                       false,
		{Kind: 1<<32 + 1, Length: 2}:                        false,
		{Kind: math.MinInt, Length: 1}:                      false,
		{Kind: math.MaxInt, Length: 1}:                      false,
		{Kind: api.Words, Length: 1 << 32}:                  false,
		{Kind: api.Words, Length: -1 << 32}:                 false,
	} {
		if got := Valid(h); got != want {
			t.Errorf("Valid of %v: %v", h, got)
		}
	}
}

// 3.1: for every Length, the Maps 2^Length - 1 and 2^Length.
func TestValidMaps(t *testing.T) {
	limit := uint64(1)
	for length := range api.MaxFields + 1 {
		if h := (api.Header{Kind: api.Record, Length: length, Map: uint32(limit - 1)}); !Valid(h) {
			t.Errorf("%v is not valid", h)
		}
		if h := (api.Header{Kind: api.Record, Length: length, Map: uint32(limit)}); length < 32 && Valid(h) {
			t.Errorf("%v is valid", h)
		}
		limit *= 2
	}
}

// 3.2
func TestEncode(t *testing.T) {
	for _, h := range headers() {
		want, wantE := uint64(0), api.ErrArg
		if allowed(h) {
			want, wantE = word(h), api.OK
		}
		if got, e := Encode(h); got != want || e != wantE {
			t.Errorf("Encode of %v: %d, error %d, want %d, error %d", h, got, e, want, wantE)
		}
	}
}

// 3.2
func TestDecodeUndoesEncode(t *testing.T) {
	for _, h := range headers() {
		if !allowed(h) {
			continue
		}
		w, e := Encode(h)
		if got, ok := Decode(w); got != h || !ok || e != api.OK {
			t.Errorf("Decode of the word %d of %v: %v, %v", w, h, got, ok)
		}
	}
}

// checkDecode compares Decode of w with the definition: the header whose word
// is w, if that header is valid.
func checkDecode(t *testing.T, w uint64) {
	t.Helper()
	want := api.Header{Kind: int(w / 4 % 4), Length: int(w / 16 % 4096), Map: uint32(w / 65536)}
	wantOK := allowed(want) && word(want) == w
	if !wantOK {
		want = api.Header{}
	}
	if got, ok := Decode(w); got != want || ok != wantOK {
		t.Fatalf("Decode of %#x: %v, %v, want %v, %v", w, got, ok, want, wantOK)
	}
}

// 3.2: all words without a Map, and the same with a bit above.
func TestDecodeOfLowWords(t *testing.T) {
	for w := range uint64(1 << 16) {
		checkDecode(t, w)
		for i := 16; i < 64; i++ {
			checkDecode(t, w|1<<i)
		}
	}
}

// 3.2: words that differ from a header's in one bit or two.
func TestDecodeOfChangedWords(t *testing.T) {
	for _, h := range headers() {
		if !allowed(h) {
			continue
		}
		for i := range 64 {
			for k := range 64 {
				checkDecode(t, word(h)^1<<i^1<<k)
			}
		}
	}
}

// 3.2: words that no header has, written out.
func TestDecodeOfNoHeader(t *testing.T) {
	for _, w := range []uint64{
		0, 2, 3, // no tag, the forwarding tag, both
		1<<48 | 61, 1<<63 | 61, // a bit above the Map
		1<<16 | 1, 1<<47 | 1, // a Map of a Filler
		1<<16 | 2<<4 | 2<<2 | 1, 1<<16 | 61, // and of Refs and Words
		256<<4 | 1, 256<<4 | 2<<2 | 1, 256<<4 | 3<<2 | 1, 4095<<4 | 3<<2 | 1, // a Length above MaxLength
		33<<4 | 1<<2 | 1, 255<<4 | 1<<2 | 1, // and above MaxFields
		1<<16 | 5, 4<<16 | 2<<4 | 5, 1<<47 | 31<<4 | 5, // a Map with a bit from Length on
		math.MaxUint64, math.MaxUint64 - 2,
	} {
		if h, ok := Decode(w); h != (api.Header{}) || ok {
			t.Errorf("Decode of %#x: %v, %v", w, h, ok)
		}
	}
}

// addressesOf are those around 0, around 2^32 and around every power of 2.
func addressesOf() []uint64 {
	l := []uint64{0, math.MaxUint64, math.MaxUint64 - 1}
	for i := range 64 {
		l = append(l, 1<<i-1, 1<<i, 1<<i+1)
	}
	slices.Sort(l)
	return slices.Compact(l)
}

// 3.3
func TestForward(t *testing.T) {
	for _, addr := range addressesOf() {
		want, wantE := uint64(0), api.ErrArg
		if addr < 1<<32 {
			want, wantE = 2+4*addr, api.OK
		}
		w, e := Forward(addr)
		if w != want || e != wantE {
			t.Errorf("Forward(%d): %d, error %d, want %d, error %d", addr, w, e, want, wantE)
		}
		if got, ok := Target(w); e == api.OK && (got != addr || !ok) {
			t.Errorf("Target of the word of %d: %d, %v", addr, got, ok)
		}
	}
}

// 3.3: the edge cases, written out.
func TestForwardAtTheLimits(t *testing.T) {
	if w, e := Forward(0); w != 2 || e != api.OK {
		t.Errorf("Forward(0): %d, error %d", w, e)
	}
	if w, e := Forward(1<<32 - 1); w != 1<<34-2 || e != api.OK {
		t.Errorf("Forward(2^32-1): %d, error %d", w, e)
	}
	if w, e := Forward(1 << 32); w != 0 || e != api.ErrArg {
		t.Errorf("Forward(2^32): %d, error %d", w, e)
	}
	if addr, ok := Target(2); addr != 0 || !ok {
		t.Errorf("Target(2): %d, %v", addr, ok)
	}
	if addr, ok := Target(1<<34 - 2); addr != 1<<32-1 || !ok {
		t.Errorf("Target(2^34-2): %d, %v", addr, ok)
	}
	if addr, ok := Target(1<<34 + 2); addr != 0 || ok {
		t.Errorf("Target(2^34+2): %d, %v", addr, ok)
	}
}

// checkTarget compares Target of w with the definition.
func checkTarget(t *testing.T, w uint64) {
	t.Helper()
	want, wantOK := w/4, w%4 == 2 && w/4 <= math.MaxUint32
	if !wantOK {
		want = 0
	}
	if got, ok := Target(w); got != want || ok != wantOK {
		t.Fatalf("Target of %#x: %d, %v, want %d, %v", w, got, ok, want, wantOK)
	}
}

// 3.3
func TestTarget(t *testing.T) {
	for w := range uint64(1 << 16) {
		checkTarget(t, w)
	}
	for _, addr := range addressesOf() {
		for tag := range uint64(4) {
			checkTarget(t, addr*4+tag)
			checkTarget(t, addr^tag)
			for i := range 64 {
				checkTarget(t, (addr*4+2)^1<<i)
			}
		}
	}
}

// 3.4
func TestSize(t *testing.T) {
	for _, h := range headers() {
		want := 0
		if allowed(h) {
			want = h.Length + 1
		}
		if got := Size(h); got != want {
			t.Errorf("Size of %v: %d, want %d", h, got, want)
		}
	}
}

// 3.4
func TestPointer(t *testing.T) {
	extreme := []int{math.MinInt, math.MinInt + 1, -64, -32, -1, 0, 1, 30, 31, 32, 33, 63, 64, 65, 254, 255, 256, 1 << 32, math.MaxInt}
	for _, h := range headers() {
		for _, i := range append([]int{h.Length - 2, h.Length - 1, h.Length, h.Length + 1}, extreme...) {
			if got := Pointer(h, i); got != isPointer(h, i) {
				t.Fatalf("Pointer of %v, %d: %v", h, i, got)
			}
		}
	}
}

// 3.4
func TestPointers(t *testing.T) {
	for _, h := range headers() {
		var want []int
		for i := range 256 {
			if isPointer(h, i) {
				want = append(want, i)
			}
		}
		if got := Pointers(h); !slices.Equal(got, want) {
			t.Fatalf("Pointers of %v: %v, want %v", h, got, want)
		}
	}
}

// 3.4: each kind, written out.
func TestPointersOfEachKind(t *testing.T) {
	for _, x := range []struct {
		h    api.Header
		want []int
	}{
		{api.Header{Kind: api.Filler, Length: 3}, nil},
		{api.Header{Kind: api.Words, Length: 3}, nil},
		{api.Header{Kind: api.Refs, Length: 0}, nil},
		{api.Header{Kind: api.Refs, Length: 3}, []int{0, 1, 2}},
		{api.Header{Kind: api.Record, Length: 3}, nil},
		{api.Header{Kind: api.Record, Length: 3, Map: 5}, []int{0, 2}},
		{api.Header{Kind: api.Record, Length: 32, Map: 1<<31 | 1}, []int{0, 31}},
		{api.Header{Kind: api.Refs, Length: 2, Map: 1}, nil},
		{api.Header{Kind: api.Record, Length: 2, Map: 4}, nil},
		{api.Header{Kind: api.Refs, Length: math.MaxInt}, nil},
		{api.Header{Kind: api.Record, Length: math.MaxInt, Map: 1}, nil},
	} {
		if got := Pointers(x.h); !slices.Equal(got, x.want) {
			t.Errorf("Pointers of %v: %v, want %v", x.h, got, x.want)
		}
	}
}

// 3.5
func TestNoWordIsBoth(t *testing.T) {
	for _, h := range headers() {
		if !allowed(h) {
			continue
		}
		w, e := Encode(h)
		_, isHeader := Decode(w)
		if _, isForward := Target(w); !isHeader || isForward || e != api.OK {
			t.Errorf("the word %#x of %v is a header: %v, a forwarding word: %v", w, h, isHeader, isForward)
		}
	}
	for _, addr := range addressesOf() {
		if addr >= 1<<32 {
			continue
		}
		w, e := Forward(addr)
		_, isForward := Target(w)
		if _, isHeader := Decode(w); isHeader || !isForward || e != api.OK {
			t.Errorf("the word %#x of %d is a header: %v, a forwarding word: %v", w, addr, isHeader, isForward)
		}
	}
	for w := range uint64(1 << 20) {
		_, isHeader := Decode(w)
		_, isForward := Target(w)
		if isHeader && isForward {
			t.Fatalf("%#x is both", w)
		}
	}
}

func TestExamples(t *testing.T) {
	for h, want := range map[api.Header]uint64{
		{Kind: api.Filler}:                    1,
		{Kind: api.Words, Length: 3}:          61,
		{Kind: api.Record, Length: 2, Map: 2}: 131109,
	} {
		if got, e := Encode(h); got != want || e != api.OK {
			t.Errorf("Encode of %v: %d, error %d, want %d", h, got, e, want)
		}
	}
	if got, e := Forward(4096); got != 16386 || e != api.OK {
		t.Errorf("Forward(4096): %d, error %d", got, e)
	}
}
