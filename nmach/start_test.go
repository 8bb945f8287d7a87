package nmach_test

import (
	"slices"
	"testing"

	"semispace/api"
	"semispace/codetest"
	"semispace/envtest"
	"semispace/heaptest"
	"semispace/ncode"
	"semispace/nmach"
)

// The numbers of the events are those of the chapter.
func TestNumbers(t *testing.T) {
	l := []int{nmach.Next, nmach.Wrote, nmach.Calls, nmach.Returns, nmach.Ends}
	if !slices.Equal(l, []int{0, 1, 2, 3, 4}) {
		t.Error(l)
	}
}

// starts checks Start. A program without words, or with another number of
// arguments, has no frame.
func starts(t *testing.T, c ncode.Code, args []uint64) {
	t.Helper()
	given, isC := codetest.Guarded(c)
	kept := heaptest.Roomy(args, 77)
	before := heaptest.Whole(kept)
	f, e := nmach.Start(given, kept)
	out := f
	out.Regs = slices.Clone(f.Regs)
	envtest.Fill(f.Regs, 55)
	if !isC() || !slices.Equal(heaptest.Whole(kept), before) {
		t.Fatalf("Start of %v with %v has changed an argument", c, args)
	}
	want, wantError := nmach.Frame{}, api.ErrArg
	if codetest.HasWords(c) && len(args) == c.Args {
		want, wantError = nmach.Frame{Regs: make([]uint64, 8)}, api.OK
		for i, v := range args {
			want.Regs[i] = v
		}
	}
	if !sameFrame(out, want) || e != wantError {
		t.Fatalf("Start of %v with %v: %v, error %d, want %v, error %d", c, args, out, e, want, wantError)
	}
}

// 23.1: how frames begin, written out.
func TestStart(t *testing.T) {
	for n, want := range [][]uint64{{0, 0, 0, 0, 0, 0, 0, 0}, {huge, 0, 0, 0, 0, 0, 0, 0}, {huge, 0, 0, 0, 0, 0, 0, 0}, {huge, 0, 5, 0, 0, 0, 0, 0}} {
		f, e := nmach.Start(ncode.Code{Args: n, Ins: []ncode.Ins{set(1, 2)}}, []uint64{huge, 0, 5}[:n])
		if e != api.OK || f.Pc != 0 || f.Err != api.OK || !slices.Equal(f.Regs, want) {
			t.Errorf("%d arguments: %v, error %d", n, f, e)
		}
	}
}

// 23.1: as many arguments as the program has, one more and one less, and many
// more; with words as the program can have them, and others.
func TestStartErrors(t *testing.T) {
	args := []uint64{1, huge, 3, 4, 5, 6, 7, 8, 9, 10}
	for _, n := range codetest.Extremes() {
		for k := range args {
			starts(t, ncode.Code{Args: n}, args[:k])
			starts(t, ncode.Code{Args: n, Ins: []ncode.Ins{jump(2)}}, args[:k]) // is no error of Encode
			starts(t, ncode.Code{Args: n, Ins: []ncode.Ins{ins(ncode.Move, 0, 8, 0)}}, args[:k])
			starts(t, ncode.Code{Args: n, Ins: []ncode.Ins{ins(ncode.Move, 8, 0, 0)}}, args[:k])
		}
	}
	starts(t, ncode.Code{Args: 1}, nil)
	for _, n := range []int{1, 255, 256, 257, 300} {
		starts(t, codetest.Long(n), nil)
		starts(t, codetest.Long(n), args[:1])
	}
	for i := range 5 {
		for _, n := range codetest.Extremes() {
			for _, x := range []ncode.Ins{ins(n, 0, 0, 0), ins(ncode.Out, n, 0, 0), ins(ncode.Out, 0, n, 0), ins(ncode.Out, 0, 0, n)} {
				c := codetest.Long(5)
				c.Ins[i] = x
				starts(t, c, nil)
				c.Args = 2
				starts(t, c, args[:2])
			}
		}
	}
}

// fetches checks Fetch: there is an instruction if the frame is valid and not at
// the end of the program.
func fetches(t *testing.T, c ncode.Code, f nmach.Frame) {
	t.Helper()
	given, isC := codetest.Guarded(c)
	kept := heaptest.Roomy(f.Regs, 77)
	before := heaptest.Whole(kept)
	x, ok := nmach.Fetch(given, nmach.Frame{Pc: f.Pc, Regs: kept, Err: f.Err})
	if !isC() || !slices.Equal(heaptest.Whole(kept), before) {
		t.Fatalf("Fetch of %v at %v has changed an argument", c, f)
	}
	want, wantOk := ncode.Ins{}, isFrame(c, f) && f.Pc < len(c.Ins)
	if wantOk {
		want = c.Ins[f.Pc]
	}
	if x != want || ok != wantOk {
		t.Fatalf("Fetch of %v at %v: %v, %v, want %v, %v", c, f, x, ok, want, wantOk)
	}
}

// 23.1: each Pc and each number of registers, and far beyond them.
func TestFetch(t *testing.T) {
	for _, n := range []int{0, 1, 2, 3, 255, 256} {
		c := codetest.Long(n)
		for i := range c.Ins {
			c.Ins[i].K = uint64(i) + 100 // so that no two are equal
		}
		for k := range 18 {
			for _, pc := range append(codetest.Extremes(), n-1, n, n+1, n+2) {
				fetches(t, c, nmach.Frame{Pc: pc, Regs: make([]uint64, k)})
				fetches(t, c, nmach.Frame{Pc: pc, Regs: make([]uint64, k), Err: api.ErrNull})
			}
		}
		for pc := range n + 1 {
			fetches(t, c, at(pc))
		}
		fetches(t, c, nmach.Frame{})
	}
	c := of(set(1, 5), ins(ncode.Out, 1, 0, 0))
	for pc, want := range c.Ins {
		if x, ok := nmach.Fetch(c, at(pc)); x != want || !ok {
			t.Errorf("at %d: %v, %v", pc, x, ok)
		}
	}
	if x, ok := nmach.Fetch(c, at(2)); x != (ncode.Ins{}) || ok {
		t.Errorf("behind the last one: %v, %v", x, ok)
	}
}

// 23.1: Fetch does not ask whether the program has words.
func TestFetchOfProgramsWithoutWords(t *testing.T) {
	for _, c := range []ncode.Code{
		codetest.Long(257), codetest.Long(300), {Args: 4, Ins: []ncode.Ins{set(1, 1)}}, {Args: -1, Ins: []ncode.Ins{set(1, 1)}},
		of(ncode.Ins{}), of(ins(18, 0, 0, 0)), of(ins(ncode.Out, 8, 0, 0)), of(ins(ncode.Out, -1, 256, 8)), of(jump(2)),
	} {
		for pc := range len(c.Ins) + 2 {
			fetches(t, c, at(pc))
			fetches(t, c, nmach.Frame{Pc: pc, Regs: make([]uint64, 7)})
		}
	}
}

// Valid frames may have any Err.
func TestFramesWithStrangeErrors(t *testing.T) {
	for _, e := range []api.Errno{-1, 23, 1 << 40, -1 << 63} {
		fetches(t, of(set(1, 2)), failed(at(0), e))
		steps(t, real(), envtest.Ordinary(), of(ins(ncode.Error, 1, 0, 0)), failed(at(0), e))
		steps(t, real(), envtest.Ordinary(), of(set(1, 2)), failed(at(0), e))
	}
}
