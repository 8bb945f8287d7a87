package ncode_test

import (
	"slices"
	"strconv"

	"semispace/codetest"
	"semispace/heaptest"
	"semispace/ncode"
)

// words are those of a program, in numbers instead of bits.
func words(c ncode.Code) []uint64 {
	l := []uint64{uint64(c.Args)}
	for _, x := range c.Ins {
		l = append(l, uint64(x.Op)+256*uint64(x.A)+4096*uint64(x.B)+1048576*uint64(x.C), x.K)
	}
	return l
}

// program is the one that has these words, if there is one.
func program(l []uint64) (ncode.Code, bool) {
	if len(l) == 0 || l[0] > 3 {
		return ncode.Code{}, false
	}
	c := ncode.Code{Args: int(l[0])}
	for i, w := range l {
		if i%2 == 1 && i+1 < len(l) {
			c.Ins = append(c.Ins, ncode.Ins{
				Op: int(w % 256), A: int(w / 256 % 16), B: int(w / 4096 % 256), C: int(w / 1048576 % 16), K: l[i+1],
			})
		}
	}
	if !codetest.HasWords(c) || !slices.Equal(words(c), l) {
		return ncode.Code{}, false
	}
	return c, true
}

// inside reports whether all instructions of a program that has words use only
// registers that exist and jump only to others and behind the last one.
func inside(c ncode.Code) bool {
	return !slices.ContainsFunc(c.Ins, func(x ncode.Ins) bool { return !codetest.Inside(x, len(c.Ins)) })
}

// checked reports whether Check of a program is OK.
func checked(c ncode.Code, functions []int) bool {
	if !codetest.HasWords(c) || !inside(c) {
		return false
	}
	for _, x := range c.Ins {
		if x.Op == ncode.Call && codetest.Arguments(x.B) == 0 {
			return false
		}
		if x.Op == ncode.Upcall && (x.B >= len(functions) || functions[x.B] > 8 || x.C+functions[x.B] > 8) {
			return false
		}
	}
	return true
}

// sorts are those of the registers: "word", "stale" or the index of a
// GetCritical.
type sorts [8]string

const (
	word  = "word"
	stale = "stale"
)

// obeys returns the sorts after an instruction on a path that has these before
// it, and reports whether it obeys its rule.
func obeys(s sorts, i int, x ncode.Ins) (sorts, bool) {
	sort, ok := word, true
	switch x.Op {
	case ncode.Jump:
		return s, true
	case ncode.JumpIf, ncode.Out, ncode.Return:
		return s, s[x.A] == word
	case ncode.Store:
		return s, s[x.A] != word && s[x.A] != stale && s[x.B] == word
	case ncode.Move:
		sort, ok = s[x.B], s[x.B] != stale
	case ncode.Load:
		ok = s[x.B] != word && s[x.B] != stale
	case ncode.Add, ncode.Sub, ncode.Mul, ncode.And, ncode.Less, ncode.Equal:
		sort, ok = combined(x.Op, s[x.B], s[x.C])
	case ncode.Call, ncode.Upcall:
		n := 8 - x.C
		if x.Op == ncode.Call {
			n = codetest.Arguments(x.B)
		}
		for r := range 8 {
			ok = ok && (r < x.C || r >= x.C+n || s[r] == word)
		}
		sort = called(&s, i, x)
	}
	s[x.A] = sort
	return s, ok
}

// combined returns what becomes of two registers, and whether they may be
// combined.
func combined(op int, b, c string) (string, bool) {
	if b == stale || c == stale {
		return word, false
	}
	switch {
	case b == word && c == word:
		return word, true
	case b == c:
		return word, op == ncode.Sub || op == ncode.Equal
	case c == word:
		return b, op == ncode.Add || op == ncode.Sub
	case b == word:
		return c, op == ncode.Add
	}
	return word, false
}

// called makes registers stale and returns the sort of a result.
func called(s *sorts, i int, x ncode.Ins) string {
	index := strconv.Itoa(i)
	if x.Op != ncode.Call || x.B < 19 || x.B > 20 {
		return word
	}
	for r, sort := range s {
		if sort == index || x.B == 20 && sort != word {
			s[r] = stale
		}
	}
	if x.B == 19 {
		return index
	}
	return word
}

// follow returns the sorts that the registers have before each instruction, for
// each path to it, and reports whether every path obeys the rules. It follows at
// most limit paths, and returns false as last result if there are more.
func follow(c ncode.Code, limit int) (before []map[sorts]bool, obeying, complete bool) {
	before = make([]map[sorts]bool, len(c.Ins)+1)
	for i := range before {
		before[i] = map[sorts]bool{}
	}
	type place struct {
		at int
		s  sorts
	}
	list := []place{{0, sorts{word, word, word, word, word, word, word, word}}}
	for n := 0; n < len(list); n++ {
		p := list[n]
		if before[p.at][p.s] {
			continue
		}
		if before[p.at][p.s] = true; p.at == len(c.Ins) {
			continue
		}
		if n > limit {
			return before, true, false
		}
		x := c.Ins[p.at]
		after, ok := obeys(p.s, p.at, x)
		if !ok {
			return before, false, true
		}
		if x.Op != ncode.Jump && x.Op != ncode.Return {
			list = append(list, place{p.at + 1, after})
		}
		if x.Op == ncode.Jump || x.Op == ncode.JumpIf {
			list = append(list, place{int(x.K), after})
		}
	}
	return before, true, true
}

// isSafe follows all paths of a program, and what they have in common where they
// meet. The second result is false if there are too many paths.
func isSafe(c ncode.Code) (ok, complete bool) {
	if !codetest.HasWords(c) || !inside(c) {
		return false, true
	}
	before, obeying, complete := follow(c, 20000)
	if !obeying || !complete {
		return false, complete
	}
	for i, x := range c.Ins {
		if len(before[i]) == 0 {
			continue
		}
		if _, ok := obeys(common(before[i]), i, x); !ok {
			return false, true
		}
	}
	return true, true
}

// common are the sorts that registers have where paths meet.
func common(paths map[sorts]bool) sorts {
	var all sorts
	for s := range paths {
		for r := range 8 {
			if all[r] == "" {
				all[r] = s[r]
			}
			if all[r] != s[r] {
				all[r] = stale
			}
		}
	}
	return all
}

// someIns returns an instruction that a program of n instructions may have, one
// in a few with something in it that is not allowed. Often it uses only the
// registers 0 to 3, so that more come together in one.
func someIns(x *heaptest.Numbers, n int) ncode.Ins {
	registers := []int{4, 8}[x.Below(2)]
	y := ncode.Ins{Op: someOp(x), A: x.Below(registers), B: x.Below(registers), C: x.Below(registers), K: uint64(x.Below(4))}
	switch y.Op {
	case ncode.Jump, ncode.JumpIf:
		y.K = uint64(x.Below(n + 1))
	case ncode.Call:
		y.B = []int{19, 19, 20, 1 + x.Below(20)}[x.Below(4)]
		y.C = x.Below([]int{3, 9 - codetest.Arguments(y.B)}[x.Below(2)])
	case ncode.Upcall:
		y.B = x.Below(4)
	}
	if x.Below(60) == 0 {
		codetest.Spoil(x, &y)
	}
	return y
}

// someOp returns an instruction's number, more often those that paths and
// addresses depend on.
func someOp(x *heaptest.Numbers) int {
	if x.Below(3) == 0 {
		return 1 + x.Below(17)
	}
	l := []int{ncode.Move, ncode.Add, ncode.JumpIf, ncode.Load, ncode.Store, ncode.Call, ncode.Call}
	return l[x.Below(len(l))]
}
