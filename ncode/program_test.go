package ncode_test

import (
	"math"
	"slices"
	"testing"

	"semispace/api"
	"semispace/codetest"
	"semispace/heaptest"
	"semispace/ncode"
)

// checks compares Check of a program with the model.
func checks(t *testing.T, c ncode.Code, functions []int) api.Errno {
	t.Helper()
	want := api.ErrCode
	if checked(c, functions) {
		want = api.OK
	}
	e := check(t, c, functions)
	if e != want {
		t.Fatalf("Check of %v with %v: error %d, want %d", c, functions, e, want)
	}
	return e
}

// allows checks that a program can be run exactly if ok is true.
func allows(t *testing.T, ok bool, c ncode.Code, functions ...int) {
	t.Helper()
	if e := checks(t, c, functions); (e == api.OK) != ok {
		t.Errorf("Check of %v with %v: error %d", c, functions, e)
	}
}

// 22.3: programs that Encode has an error for.
func TestCheckOfProgramsWithoutWords(t *testing.T) {
	allows(t, true, ncode.Code{})
	allows(t, true, ncode.Code{Args: 3})
	allows(t, false, ncode.Code{Args: 4})
	allows(t, false, ncode.Code{Args: -1})
	allows(t, true, codetest.Long(256))
	allows(t, false, codetest.Long(257))
	for _, n := range codetest.Extremes() {
		for op := range 18 {
			for _, x := range []ncode.Ins{ins(op, n, 1, 1), ins(op, 1, n, 1), ins(op, 1, 1, n), ins(n, op%8, 1, 1)} {
				checks(t, of(x), []int{1, 2, 3})
				checks(t, of(out(1), x, out(2)), []int{1, 2, 3})
				checks(t, of(x, out(8)), []int{1, 2, 3})
			}
		}
	}
}

// 22.3: B is a register in some instructions, and anything in others.
func TestCheckOfRegisters(t *testing.T) {
	for op := 1; op <= 17; op++ {
		if op == ncode.Call || op == ncode.Upcall {
			continue
		}
		isRegister := slices.Contains([]int{2, 3, 4, 5, 6, 7, 8, 11, 12}, op)
		for b := range 256 {
			allows(t, b < 8 || !isRegister, of(ins(op, 0, b, 0)))
			allows(t, b < 8 || !isRegister, of(ins(op, 7, b, 7)))
		}
	}
}

// 22.3: a jump leads to an instruction or behind the last one; the K of other
// instructions is anything.
func TestCheckOfJumps(t *testing.T) {
	for _, n := range []int{1, 2, 5, 255, 256} {
		for _, i := range []int{0, n / 2, n - 1} {
			for _, k := range []uint64{0, 1, 2, 3, 5, 6, 254, 255, 256, 257, 1 << 32, 1 << 63, 1<<63 + 1, huge} {
				for op := 1; op <= 17; op++ {
					c := codetest.Long(n)
					c.Ins[i] = ncode.Ins{Op: op, A: 1, B: 1, C: 1, K: k}
					jumps := op == ncode.Jump || op == ncode.JumpIf
					allows(t, k <= uint64(n) || !jumps, c, 1, 1)
				}
			}
		}
	}
}

// 22.3: what is called is a boundary call, and its arguments are in registers.
func TestCheckOfCalls(t *testing.T) {
	for op := range 256 {
		for c := range 8 {
			ok := op >= 1 && op <= 20 && c+codetest.Arguments(op) <= 8
			allows(t, ok, of(ins(ncode.Call, 0, op, c)))
			allows(t, ok, of(ins(ncode.Call, 7, op, c)), 1, 2, 3)
		}
	}
}

// 22.3: what an Upcall calls is a function, and its parameters are in registers.
// The numbers of parameters may be any numbers.
func TestCheckOfUpcalls(t *testing.T) {
	for c := range 8 {
		for n := range 12 {
			allows(t, c+n <= 8, of(ins(ncode.Upcall, 1, 2, c)), 99, 99, n, 99)
		}
		for _, n := range []int{math.MinInt, math.MinInt + 1, math.MinInt + 7, -1 << 32, -9, -8, -1} {
			allows(t, true, of(ins(ncode.Upcall, 1, 0, c)), n)
		}
		for _, n := range []int{99, 1 << 32, math.MaxInt - 7, math.MaxInt - 1, math.MaxInt} {
			allows(t, false, of(ins(ncode.Upcall, 1, 0, c)), n)
		}
	}
	for n := range 300 {
		for _, b := range []int{0, 1, 2, 7, 8, 15, 16, 254, 255} {
			allows(t, b < n, of(ins(ncode.Upcall, 1, b, 5)), slices.Repeat([]int{3}, n)...)
		}
	}
}

// Fits says of each well-formed instruction alone what 22.3 says of registers and
// targets, in programs of any length.
func TestFits(t *testing.T) {
	for op := 1; op <= 17; op++ {
		for _, b := range []int{0, 1, 6, 7, 8, 9, 10, 19, 20, 21, 255} {
			for c := range 8 {
				for _, k := range []uint64{0, 1, 2, 3, 255, 256, 257, 1 << 63, huge} {
					for _, n := range []int{0, 1, 2, 255, 256} {
						x := ncode.Ins{Op: op, A: 7, B: b, C: c, K: k}
						if ok := ncode.Fits(x, n); ok != codetest.Inside(x, n) {
							t.Fatalf("Fits of %v and %d: %v", x, n, ok)
						}
					}
				}
			}
		}
	}
}

// 22.3: irregular programs.
func TestCheckOfIrregularPrograms(t *testing.T) {
	x := heaptest.Numbers(223)
	good := 0
	for range 40000 {
		n := x.Below(7)
		c := ncode.Code{Args: x.Below(4)}
		for range n {
			y := someIns(&x, n)
			if x.Below(12) == 0 {
				codetest.Spoil(&x, &y)
			}
			c.Ins = append(c.Ins, y)
		}
		if x.Below(40) == 0 {
			c.Args = -1 + 5*x.Below(2)
		}
		if checks(t, c, []int{x.Below(4), x.Below(4), x.Below(4), x.Below(10) - 1}[:x.Below(5)]) == api.OK {
			good++
		}
	}
	if good < 5000 || good > 35000 {
		t.Errorf("%d programs are good", good)
	}
}
