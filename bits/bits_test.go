package bits

import (
	"math"
	"slices"
	"testing"

	"semispace/api"
)

const all = math.MaxUint64

// words are ordinary and extreme words to read and change fields of.
var words = []uint64{0, 1, 0b110100, 0xff, 0x0123456789abcdef, 0xaaaaaaaaaaaaaaaa, 1 << 63, all - 1, all}

// positions are the edges of a word and what lies beyond them.
var positions = []int{math.MinInt, -65, -64, -1, 0, 1, 2, 31, 32, 33, 62, 63, 64, 65, 128, math.MaxInt - 63, math.MaxInt}

func bit(w uint64, i int) bool { return w/(1<<i)%2 == 1 }

func inside(at, n int) bool {
	return at >= 0 && at <= 64 && n >= 0 && n <= 64 && at+n <= 64
}

// valuesAround are numbers that just fit into n bits, and that just do not.
func valuesAround(n int) []uint64 {
	l := []uint64{0, 1, all}
	if n > 0 && n < 64 {
		l = append(l, 1<<n-1, 1<<n, 1<<n+1)
	}
	return l
}

// 1.1
func TestOnesHasThatManyBits(t *testing.T) {
	for n := -70; n <= 140; n++ {
		w := Ones(n)
		for i := range 64 {
			if bit(w, i) != (i < n) {
				t.Errorf("Ones(%d) = %#x: bit %d", n, w, i)
			}
		}
	}
}

// 1.1
func TestOnesOfExtremeNumbers(t *testing.T) {
	for n, want := range map[int]uint64{
		math.MinInt: 0, -64: 0, -1: 0, 0: 0, 1: 1, 2: 3, 63: all >> 1, 64: all, 65: all,
		1 << 32: all, math.MaxInt: all,
	} {
		if got := Ones(n); got != want {
			t.Errorf("Ones(%d) = %#x, want %#x", n, got, want)
		}
	}
}

// 1.2
func TestGetReadsTheNamedBits(t *testing.T) {
	for _, w := range words {
		for at := range 65 {
			for n := range 65 - at {
				got, e := Get(w, at, n)
				if e != api.OK {
					t.Fatalf("Get(%#x, %d, %d): error %d", w, at, n, e)
				}
				for i := range 64 {
					if bit(got, i) != (i < n && bit(w, at+i)) {
						t.Fatalf("Get(%#x, %d, %d) = %#x: bit %d", w, at, n, got, i)
					}
				}
			}
		}
	}
}

// 1.2
func TestGetOutsideTheWord(t *testing.T) {
	for _, at := range positions {
		for _, n := range positions {
			got, e := Get(all, at, n)
			if inside(at, n) != (e == api.OK) || !inside(at, n) && (got != 0 || e != api.ErrArg) {
				t.Errorf("Get(all, %d, %d) = %#x, error %d", at, n, got, e)
			}
		}
	}
}

// 1.2
func TestSetChangesTheNamedBitsOnly(t *testing.T) {
	for _, w := range words {
		for at := range 65 {
			for n := range 65 - at {
				for _, v := range valuesAround(n) {
					checkSet(t, w, at, n, v)
				}
			}
		}
	}
}

func checkSet(t *testing.T, w uint64, at, n int, v uint64) {
	t.Helper()
	got, e := Set(w, at, n, v)
	if n < 64 && v >= 1<<n {
		if got != 0 || e != api.ErrRange {
			t.Fatalf("Set(%#x, %d, %d, %#x) = %#x, error %d, want ErrRange", w, at, n, v, got, e)
		}
		return
	}
	if e != api.OK {
		t.Fatalf("Set(%#x, %d, %d, %#x): error %d", w, at, n, v, e)
	}
	for i := range 64 {
		want := bit(w, i)
		if i >= at && i < at+n {
			want = bit(v, i-at)
		}
		if bit(got, i) != want {
			t.Fatalf("Set(%#x, %d, %d, %#x) = %#x: bit %d", w, at, n, v, got, i)
		}
	}
}

// 1.2: ErrArg comes before ErrRange.
func TestSetOutsideTheWord(t *testing.T) {
	for _, at := range positions {
		for _, n := range positions {
			for _, v := range []uint64{0, 1, all} {
				got, e := Set(all, at, n, v)
				if inside(at, n) {
					if e == api.ErrArg {
						t.Errorf("Set(all, %d, %d, %#x): ErrArg", at, n, v)
					}
				} else if got != 0 || e != api.ErrArg {
					t.Errorf("Set(all, %d, %d, %#x) = %#x, error %d", at, n, v, got, e)
				}
			}
		}
	}
}

// 1.2
func TestExamplesOfGetAndSet(t *testing.T) {
	if got, e := Get(0b110100, 2, 3); got != 5 || e != api.OK {
		t.Errorf("Get: %d, error %d", got, e)
	}
	if got, e := Set(0xff, 4, 4, 3); got != 0x3f || e != api.OK {
		t.Errorf("Set: %#x, error %d", got, e)
	}
	for _, at := range []int{0, 7, 64} {
		if got, e := Get(all, at, 0); got != 0 || e != api.OK {
			t.Errorf("Get of no bits at %d: %#x, error %d", at, got, e)
		}
		if got, e := Set(9, at, 0, 0); got != 9 || e != api.OK {
			t.Errorf("Set of no bits at %d: %#x, error %d", at, got, e)
		}
		if got, e := Set(9, at, 0, 1); got != 0 || e != api.ErrRange {
			t.Errorf("Set of no bits at %d to 1: %#x, error %d", at, got, e)
		}
	}
}

// repeated returns n fields of this width and value.
func repeated(n, width int, v uint64) []Field {
	return slices.Repeat([]Field{{Width: width, Value: v}}, n)
}

// 1.3
func TestPack(t *testing.T) {
	for _, x := range []struct {
		name string
		l    []Field
		want uint64
		e    api.Errno
	}{
		{"example", []Field{{4, 9}, {8, 1}}, 0x19, api.OK},
		{"nil", nil, 0, api.OK},
		{"empty", []Field{}, 0, api.OK},
		{"bits above are 0", []Field{{3, 5}}, 5, api.OK},
		{"three fields", []Field{{1, 1}, {2, 2}, {61, 3}}, 0b11101, api.OK},
		{"the whole word", []Field{{64, all}}, all, api.OK},
		{"two halves", []Field{{32, 1}, {32, 0xffffffff}}, 0xffffffff00000001, api.OK},
		{"bit 0 and the rest", []Field{{1, 0}, {63, all >> 1}}, all - 1, api.OK},
		{"the rest and bit 63", []Field{{63, 0}, {1, 1}}, 1 << 63, api.OK},
		{"64 bits", repeated(64, 1, 1), all, api.OK},
		{"numbers that just fit", []Field{{4, 15}, {8, 255}, {52, 1<<52 - 1}}, all, api.OK},

		{"width 0", []Field{{0, 0}}, 0, api.ErrArg},
		{"width -1", []Field{{-1, 0}}, 0, api.ErrArg},
		{"least width", []Field{{math.MinInt, 0}}, 0, api.ErrArg},
		{"width 65", []Field{{65, 0}}, 0, api.ErrArg},
		{"greatest width", []Field{{math.MaxInt, 0}}, 0, api.ErrArg},
		{"65 bits", []Field{{64, 0}, {1, 0}}, 0, api.ErrArg},
		{"64 bits and width 0", []Field{{64, 0}, {0, 0}}, 0, api.ErrArg},
		{"65 fields", repeated(65, 1, 0), 0, api.ErrArg},
		{"a negative width makes no room", []Field{{60, 0}, {-8, 0}, {8, 0}}, 0, api.ErrArg},
		{"a sum that overflows", []Field{{math.MaxInt, 0}, {math.MaxInt, 0}, {2, 0}}, 0, api.ErrArg},

		{"too great in the first field", []Field{{4, 16}, {8, 1}}, 0, api.ErrRange},
		{"too great in the last field", []Field{{4, 9}, {8, 256}}, 0, api.ErrRange},
		{"too great in the middle", []Field{{4, 9}, {1, 2}, {8, 1}}, 0, api.ErrRange},
		{"too great for 63 bits", []Field{{1, 0}, {63, 1 << 63}}, 0, api.ErrRange},
		{"ErrArg after ErrRange", []Field{{4, 16}, {0, 0}}, 0, api.ErrArg},
		{"ErrArg before ErrRange", []Field{{65, 0}, {4, 16}}, 0, api.ErrArg},
		{"sum after ErrRange", []Field{{4, 16}, {61, 0}}, 0, api.ErrArg},
	} {
		if got, e := Pack(x.l); got != x.want || e != x.e {
			t.Errorf("%s: %#x, error %d, want %#x, error %d", x.name, got, e, x.want, x.e)
		}
	}
}

// 1.4
func TestUnpack(t *testing.T) {
	for _, x := range []struct {
		name   string
		w      uint64
		widths []int
		want   []uint64
		e      api.Errno
	}{
		{"example", 0x19, []int{4, 8}, []uint64{9, 1}, api.OK},
		{"nil", 0, nil, nil, api.OK},
		{"empty", 0, []int{}, nil, api.OK},
		{"zeros", 0, []int{1, 63}, []uint64{0, 0}, api.OK},
		{"three fields", 0b11101, []int{1, 2, 61}, []uint64{1, 2, 3}, api.OK},
		{"the whole word", all, []int{64}, []uint64{all}, api.OK},
		{"two halves", 0xffffffff00000001, []int{32, 32}, []uint64{1, 0xffffffff}, api.OK},
		{"the rest and bit 63", 1 << 63, []int{63, 1}, []uint64{0, 1}, api.OK},
		{"64 bits", all, slices.Repeat([]int{1}, 64), slices.Repeat([]uint64{1}, 64), api.OK},
		{"all bits below the end", all >> 1, []int{60, 3}, []uint64{1<<60 - 1, 7}, api.OK},

		{"width 0", 0, []int{0}, nil, api.ErrArg},
		{"width -1", 0, []int{4, -1}, nil, api.ErrArg},
		{"least width", 0, []int{math.MinInt}, nil, api.ErrArg},
		{"width 65", 0, []int{65}, nil, api.ErrArg},
		{"greatest width", 0, []int{math.MaxInt}, nil, api.ErrArg},
		{"65 bits", 0, []int{60, 5}, nil, api.ErrArg},
		{"64 bits and width 0", 0, []int{64, 0}, nil, api.ErrArg},
		{"65 fields", 0, slices.Repeat([]int{1}, 65), nil, api.ErrArg},
		{"a negative width makes no room", 0, []int{60, -8, 8}, nil, api.ErrArg},
		{"a sum that overflows", 0, []int{math.MaxInt, math.MaxInt, 2}, nil, api.ErrArg},

		{"a bit directly above", 1 << 12, []int{4, 8}, nil, api.ErrRange},
		{"bit 63 above", 1<<63 | 1, []int{63}, nil, api.ErrRange},
		{"a bit above no fields", 1, nil, nil, api.ErrRange},
		{"ErrArg before ErrRange", all, []int{4, 0}, nil, api.ErrArg},
	} {
		if got, e := Unpack(x.w, x.widths); !slices.Equal(got, x.want) || e != x.e {
			t.Errorf("%s: %v, error %d, want %v, error %d", x.name, got, e, x.want, x.e)
		}
	}
}

// numbers is a sequence of numbers that look irregular, the same ones in each run.
type numbers uint64

func (x *numbers) next() uint64 {
	*x ^= *x << 13
	*x ^= *x >> 7
	*x ^= *x << 17
	return uint64(*x)
}

// widths returns the widths of some fields that a word has room for.
func (x *numbers) widths() []int {
	var l []int
	for left := 64; left > 0; {
		n := int(x.next()%uint64(left)) + 1
		if x.next()%4 == 0 {
			break
		}
		l = append(l, n)
		left -= n
	}
	return l
}

// 1.5
func TestUnpackUndoesPack(t *testing.T) {
	x := numbers(1)
	for range 20000 {
		widths := x.widths()
		var l []Field
		var values []uint64
		for _, n := range widths {
			v := x.next() >> (64 - n)
			l, values = append(l, Field{Width: n, Value: v}), append(values, v)
		}
		w, e := Pack(l)
		if e != api.OK {
			t.Fatalf("Pack(%v): error %d", l, e)
		}
		if got, e := Unpack(w, widths); !slices.Equal(got, values) || e != api.OK {
			t.Fatalf("Unpack of Pack(%v) = %#x: %v, error %d", l, w, got, e)
		}
		checkFields(t, w, l)
	}
}

// checkFields looks for each field of l where Pack should have put it.
func checkFields(t *testing.T, w uint64, l []Field) {
	t.Helper()
	at := 0
	for _, f := range l {
		if got, e := Get(w, at, f.Width); got != f.Value || e != api.OK {
			t.Fatalf("Get(%#x, %d, %d) = %#x, error %d, want %#x", w, at, f.Width, got, e, f.Value)
		}
		at += f.Width
	}
	if got, e := Get(w, at, 64-at); got != 0 || e != api.OK {
		t.Fatalf("above %v: %#x, error %d", l, got, e)
	}
}

// 1.5
func TestPackUndoesUnpack(t *testing.T) {
	x := numbers(2)
	for range 20000 {
		widths := x.widths()
		sum := 0
		for _, n := range widths {
			sum += n
		}
		w := x.next() >> (64 - sum)
		values, e := Unpack(w, widths)
		if e != api.OK {
			t.Fatalf("Unpack(%#x, %v): error %d", w, widths, e)
		}
		var l []Field
		for i, n := range widths {
			l = append(l, Field{Width: n, Value: values[i]})
		}
		if got, e := Pack(l); got != w || e != api.OK {
			t.Fatalf("Pack(%v) = %#x, error %d, want %#x", l, got, e, w)
		}
	}
}

// R4: neither the arguments nor the memory behind them change, and results are new memory.
func TestArgumentsStayAsTheyAre(t *testing.T) {
	fields := []Field{{4, 9}, {8, 1}, {3, 7}}
	if _, e := Pack(fields[:2]); e != api.OK {
		t.Fatalf("Pack: error %d", e)
	}
	if !slices.Equal(fields, []Field{{4, 9}, {8, 1}, {3, 7}}) {
		t.Errorf("after Pack: %v", fields)
	}
	widths := []int{4, 8, 3}
	first, _ := Unpack(0x19, widths[:2])
	second, _ := Unpack(0x19, widths[:2])
	first[0] = 77
	if !slices.Equal(widths, []int{4, 8, 3}) || !slices.Equal(second, []uint64{9, 1}) {
		t.Errorf("after Unpack: %v, %v", widths, second)
	}
}
