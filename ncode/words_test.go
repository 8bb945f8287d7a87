package ncode_test

import (
	"math"
	"slices"
	"testing"

	"semispace/api"
	"semispace/codetest"
	"semispace/heaptest"
	"semispace/ncode"
)

// The numbers of the instructions and the limits are those of the chapter.
func TestNumbers(t *testing.T) {
	l := []int{
		ncode.Const, ncode.Move, ncode.Add, ncode.Sub, ncode.Mul, ncode.And, ncode.Less, ncode.Equal, ncode.Jump,
		ncode.JumpIf, ncode.Load, ncode.Store, ncode.Call, ncode.Upcall, ncode.Out, ncode.Error, ncode.Return,
	}
	for i, n := range l {
		if n != i+1 {
			t.Errorf("instruction %d has the number %d", i+1, n)
		}
	}
	if len(l) != 17 || ncode.Registers != 8 || ncode.MaxCode != 256 {
		t.Error(len(l), ncode.Registers, ncode.MaxCode)
	}
}

// 22.1
func TestArgs(t *testing.T) {
	for op := -300; op < 600; op++ {
		if n := ncode.Args(op); n != codetest.Arguments(op) {
			t.Errorf("Args(%d) = %d, want %d", op, n, codetest.Arguments(op))
		}
	}
	for _, op := range []int{math.MinInt, math.MinInt + 1, -1 << 32, 1<<32 + 1, 1<<32 + 7, 1<<62 + 9, math.MaxInt} {
		if n := ncode.Args(op); n != 0 {
			t.Errorf("Args(%d) = %d", op, n)
		}
	}
}

// encodes checks Encode of a program, and Decode of its words.
func encodes(t *testing.T, c ncode.Code) {
	t.Helper()
	l, e := encode(t, c)
	if !codetest.HasWords(c) {
		if len(l) != 0 || e != api.ErrArg {
			t.Fatalf("Encode of %v: %v, error %d", c, l, e)
		}
		return
	}
	if e != api.OK || !slices.Equal(l, words(c)) {
		t.Fatalf("Encode of %v: %v, error %d, want %v", c, l, e, words(c))
	}
	decodes(t, l)
}

// decodes checks Decode of words.
func decodes(t *testing.T, l []uint64) {
	t.Helper()
	want, ok := program(l)
	wantError := api.ErrForm
	if ok {
		wantError = api.OK
	}
	if c, e := decode(t, l); e != wantError || !same(c, want) {
		t.Fatalf("Decode of %v: %v, error %d, want %v, error %d", l, c, e, want, wantError)
	}
}

// 22.2: programs and their words, written out.
func TestProgramsAndWords(t *testing.T) {
	for _, x := range []struct {
		c ncode.Code
		l []uint64
	}{
		{ncode.Code{}, []uint64{0}},
		{ncode.Code{Args: 3}, []uint64{3}},
		{of(ncode.Ins{Op: ncode.Const, A: 1, K: 5}), []uint64{0, 0x101, 5}},
		{of(ncode.Ins{Op: ncode.Return, A: 7, B: 255, C: 7, K: huge}), []uint64{0, 0x7ff711, huge}},
		{
			ncode.Code{Args: 1, Ins: []ncode.Ins{ins(ncode.Call, 2, 7, 3), ins(ncode.Store, 4, 5, 0), jump(1)}},
			[]uint64{1, 0x30720d, 0, 0x540c, 0, 9, 1},
		},
		{ncode.Code{Args: 2, Ins: []ncode.Ins{ins(ncode.Const, 0, 1, 0), ins(ncode.Const, 0, 0, 1)}}, []uint64{2, 0x1001, 0, 0x100001, 0}},
	} {
		if l, e := encode(t, x.c); e != api.OK || !slices.Equal(l, x.l) {
			t.Errorf("Encode of %v: %#x, error %d", x.c, l, e)
		}
		if c, e := decode(t, x.l); e != api.OK || !same(c, x.c) {
			t.Errorf("Decode of %#x: %v, error %d", x.l, c, e)
		}
	}
}

// 22.2: all combinations of numbers around the limits of an instruction.
func TestWellFormedInstructions(t *testing.T) {
	l := codetest.Extremes()
	for _, op := range l {
		for _, a := range l {
			for _, b := range l {
				for _, c := range l {
					x := ins(op, a, b, c)
					if got, e := ncode.Encode(of(x)); (e == api.OK) != codetest.Formed(x) || e != api.OK && e != api.ErrArg || (len(got) > 0) != (e == api.OK) {
						t.Fatalf("Encode of %v: %v, error %d", x, got, e)
					}
				}
			}
		}
	}
	for op := range 20 {
		for _, k := range []uint64{0, 1, 256, 257, 1 << 63, huge - 1, huge} {
			encodes(t, of(ncode.Ins{Op: op, A: 7, B: 255, C: 7, K: k}))
		}
	}
}

// 22.2: an instruction that is not well-formed, wherever it is, and the numbers
// of arguments and instructions.
func TestLimitsOfPrograms(t *testing.T) {
	for _, n := range codetest.Extremes() {
		encodes(t, ncode.Code{Args: n})
		encodes(t, ncode.Code{Args: n, Ins: []ncode.Ins{out(1)}})
		encodes(t, ncode.Code{Args: n, Ins: []ncode.Ins{out(8)}})
		for i := range 4 {
			c := codetest.Long(4)
			c.Ins[i].Op = n
			encodes(t, c)
		}
	}
	for _, n := range []int{1, 2, 255, 256, 257, 258, 511, 512, 513, 1000} {
		c := codetest.Long(n)
		encodes(t, c)
		c.Ins[n-1].A = 8
		encodes(t, c)
		c.Args = 3
		encodes(t, c)
	}
}

// 22.2: words with each combination of fields, also those that no program has.
func TestInstructionsOfWords(t *testing.T) {
	for low := range 1 << 12 { // all Op and A
		for _, b := range []uint64{0, 1, 127, 128, 255} {
			for c := range uint64(16) {
				w := uint64(low) | b<<12 | c<<20
				x := ncode.Ins{Op: low % 256, A: low / 256, B: int(b), C: int(c), K: w + 1}
				got, e := ncode.Decode([]uint64{3, w, w + 1})
				if codetest.Formed(x) && (e != api.OK || !same(got, ncode.Code{Args: 3, Ins: []ncode.Ins{x}})) ||
					!codetest.Formed(x) && (e != api.ErrForm || !same(got, ncode.Code{})) {
					t.Fatalf("Decode of %#x: %v, error %d", w, got, e)
				}
			}
		}
	}
	for i := range 64 {
		for j := range 64 {
			decodes(t, []uint64{2, 0x101 ^ 1<<i ^ 1<<j, 5})
			decodes(t, []uint64{2, 0x711, 0, 1<<i | 1<<j, huge})
		}
	}
}

// 22.2: lists of words that are too short, too long or cut, and numbers of
// arguments that there are not.
func TestListsOfWords(t *testing.T) {
	decodes(t, nil)
	decodes(t, []uint64{})
	for _, n := range []uint64{0, 1, 2, 3, 4, 5, 255, 1 << 32, 1<<32 + 1, 1 << 63, 1<<63 + 1, huge - 1, huge} {
		decodes(t, []uint64{n})
		decodes(t, []uint64{n, 0x101})
		decodes(t, []uint64{n, 0x101, 5})
		decodes(t, []uint64{n, 0, 5})
	}
	for _, n := range []int{254, 255, 256, 257, 258, 600} {
		l := words(codetest.Long(n))
		decodes(t, l)
		decodes(t, l[:2*n])
		decodes(t, append(l, 1))
	}
	l := words(codetest.Long(4))
	for i := range l {
		for _, w := range []uint64{0, 18, 0x801, 1 << 24, 0x800001, huge} {
			faulty := slices.Clone(l)
			faulty[i] = w
			decodes(t, faulty)
		}
	}
}

// 22.2: irregular programs, and words with a bit or a word changed.
func TestIrregularWords(t *testing.T) {
	x := heaptest.Numbers(22)
	for range 20000 {
		c := ncode.Code{Args: x.Below(4)}
		n := x.Below(9)
		for range n {
			y := someIns(&x, n)
			y.B = x.Below(256)
			c.Ins = append(c.Ins, y)
		}
		encodes(t, c)
		l := words(c)
		switch i := x.Below(len(l)); x.Below(3) {
		case 0:
			l[i] ^= 1 << x.Below(64)
		case 1:
			l[i] = uint64(x)
		case 2:
			l = slices.Delete(l, i, i+1)
		}
		decodes(t, l)
	}
}

// The words of a program and the program of words are new memory.
func TestResultsAreNewMemory(t *testing.T) {
	c := codetest.Long(3)
	before := slices.Clone(c.Ins)
	l, e := ncode.Encode(c)
	d, f := ncode.Decode(l)
	if e != api.OK || f != api.OK {
		t.Fatal(e, f)
	}
	kept := slices.Clone(l)
	for i := range d.Ins {
		d.Ins[i] = ncode.Ins{Op: 88}
	}
	if !slices.Equal(l, kept) || !slices.Equal(c.Ins, before) {
		t.Error("a result shares memory with an argument")
	}
	for i := range l {
		l[i] = 99
	}
	if !slices.Equal(c.Ins, before) {
		t.Error("the words share memory with the program")
	}
}
