package ncode_test

import (
	"slices"
	"testing"

	"semispace/codetest"
	"semispace/envtest"
	"semispace/heaptest"
	"semispace/ncode"
)

// 22.4: where paths meet, a register has the sort that it has on all of them, or
// is stale.
func TestSafeWherePathsMeet(t *testing.T) {
	// One path has the first instruction in it, the other one the second.
	meeting := func(x, y ncode.Ins, then ...ncode.Ins) ncode.Code {
		return prepared(append([]ncode.Ins{jumpIf(0, 10), x, jump(11), y}, then...)...)
	}
	held := map[string]int{word: 0, "p": 1, "q": 3}
	for x, b := range held {
		for y, c := range held {
			for a := range 8 {
				want := x
				if x != y {
					want = stale
				}
				p, q := 1, 3
				if a == p {
					p = 2
				}
				if a == q {
					q = 5
				}
				// The other one is copied, too, to where it is not needed.
				m := meeting(move(a, b), move(a, c))
				if got := sortOf(t, m, a, p, q); got != want {
					t.Errorf("a register that is %s or %s is %s, want %s", x, y, got, want)
				}
				if other := (a + 1) % 8; sortOf(t, m, other, p, q) != seen[other] {
					t.Errorf("register %d has another sort", other)
				}
			}
		}
	}
	// A path on which a register is stale makes it stale.
	m := meeting(release(0, 0), out(0))
	for r, want := range seen {
		if isRaw(want) {
			want = stale
		}
		if got := sortOf(t, m, r, 1, 3); got != want {
			t.Errorf("register %d is %s, want %s", r, got, want)
		}
	}
}

// 22.4: which paths there are.
func TestSafeOnPaths(t *testing.T) {
	end := ins(ncode.Return, 0, 0, 0)
	judges(t, true,
		of(getCritical(1, 0), jump(3), out(1), out(2)),                // nothing leads to 2
		of(getCritical(1, 0), jump(3), out(1)),                        // to behind the last one
		of(getCritical(1, 0), end, out(1)),                            // the next one is not reached
		of(jump(2), getCritical(1, 0), out(1)),                        // 1 is not reached
		of(jump(3), out(1), end, getCritical(2, 0), jump(1)),          // there, the other register is an address
		of(jumpIf(0, 2), jump(0), out(1)),                             //
		of(jump(0), getCritical(1, 0), out(1)),                        // for ever
		of(getCritical(1, 0), jumpIf(0, 0), ins(ncode.Load, 2, 1, 0)), // the newer one in any case
		of(getCritical(1, 0), jumpIf(0, 3), jump(1), jump(0)),
	)
	judges(t, false,
		of(getCritical(1, 0), jump(2), out(1)),
		of(getCritical(1, 0), jumpIf(0, 3), out(1)),      // the next one
		of(getCritical(1, 0), jumpIf(0, 3), end, out(1)), // the target
		of(jump(3), out(1), end, getCritical(1, 0), jump(1)),
		of(out(1), getCritical(1, 0), jump(0)), // only the second time
		of(out(1), getCritical(1, 0), jumpIf(0, 0)),
		of(jumpIf(0, 2), getCritical(1, 0), out(1)),
		of(jumpIf(0, 2), getCritical(1, 0), ins(ncode.Load, 2, 1, 0)),
		of(jumpIf(0, 3), getCritical(1, 0), jump(4), getCritical(1, 0), ins(ncode.Load, 2, 1, 0)), // two addresses
		of(getCritical(1, 0), move(2, 1), jumpIf(0, 0), ins(ncode.Load, 3, 2, 0), move(3, 2), jumpIf(3, 0)),
		of(getCritical(1, 0), ins(ncode.Equal, 3, 1, 2), move(2, 1), jump(0)),
	)
}

// 22.4: what a long way round finds out.
func TestSafeInManyRounds(t *testing.T) {
	for _, n := range []int{5, 50, 255, 256} {
		for _, last := range []ncode.Ins{out(0), out(1)} {
			c := ncode.Code{Ins: []ncode.Ins{getCritical(1, 0), jump(n - 1), last}}
			for i := 3; i < n; i++ {
				c.Ins = append(c.Ins, jump(i-1)) // from the last one back to 2
			}
			judges(t, last.A == 0, c)
		}
	}
}

// 22.4: long programs in which paths lead from everywhere to everywhere.
func TestSafeOfProgramsWithManyPaths(t *testing.T) {
	c := ncode.Code{}
	for i := range 256 {
		c.Ins = append(c.Ins, jumpIf(0, (i*97+31)%257))
		if i%3 == 1 {
			c.Ins[i] = getCritical(1+i%7, 0)
		}
	}
	judges(t, true, c)
	c.Ins[255] = ins(ncode.Load, 0, 7, 0)
	judges(t, false, c)
}

// grow returns an irregular program of at most n instructions that is good, as
// all those are that it has been made from.
func grow(x *heaptest.Numbers, n int, isGood func(c ncode.Code) bool) ncode.Code {
	c := ncode.Code{Args: x.Below(4)}
	for range x.Below(3) {
		c.Ins = append(c.Ins, getCritical(1+x.Below(3), 0))
	}
	for range 4 * n {
		last := len(c.Ins)
		l := slices.Insert(slices.Clone(c.Ins), last-x.Below(1+last/3), someIns(x, last+1))
		if next := (ncode.Code{Args: c.Args, Ins: l}); len(l) <= n && isGood(next) {
			c = next
		}
	}
	return c
}

// 22.4: irregular programs.
func TestSafeOfIrregularPrograms(t *testing.T) {
	x := heaptest.Numbers(224)
	count := envtest.Counts{}
	isGood := func(c ncode.Code) bool {
		want, complete := isSafe(c)
		if ok := safe(t, c); ok != want && complete {
			t.Fatalf("Safe of %v: %v, want %v", c, ok, want)
		}
		if !complete {
			count["too many paths"]++
		} else if codetest.HasWords(c) && inside(c) && !want {
			count["unsafe"]++
		}
		return want
	}
	for range 3000 {
		c := grow(&x, 4+x.Below(10), isGood)
		before, _, _ := follow(c, 20000)
		for i, y := range c.Ins {
			switch {
			case len(before[i]) == 0:
				count["not reached"]++
			case y.Op == ncode.Load || y.Op == ncode.Store:
				count["accesses"]++
			}
			if len(before[i]) > 1 {
				count["several paths"]++
			}
		}
	}
	if l := count.Seldom(500, "unsafe", "not reached", "several paths", "accesses"); len(l) > 0 {
		t.Errorf("hardly any: %v, of %v", l, count)
	}
}
