package ncode_test

import (
	"slices"
	"testing"

	"semispace/codetest"
	"semispace/ncode"
)

// prepared begins a program with seven instructions. After it registers 1 and 2
// hold the address p, 3 and 5 the address q, and 4 is stale; the others are
// words.
func prepared(l ...ncode.Ins) ncode.Code {
	begin := []ncode.Ins{getCritical(1, 0), move(2, 1), getCritical(3, 0), move(5, 3), jumpIf(0, 6), move(4, 1), out(0)}
	return of(append(begin, l...)...)
}

// seen are the sorts of the registers after prepared.
var seen = [8]string{word, "p", "p", "q", stale, "q", word, word}

// then appends an instruction to a program.
func then(c ncode.Code, x ncode.Ins) ncode.Code { return of(append(slices.Clone(c.Ins), x)...) }

// sortOf finds out which sort a register has behind a safe program, in which
// register p holds p, and q q. Of another address it says "raw".
func sortOf(t *testing.T, c ncode.Code, r, p, q int) string {
	t.Helper()
	switch {
	case safe(t, then(c, out(r))):
		return word
	case !safe(t, then(c, move(r, r))):
		return stale
	case safe(t, then(c, ins(ncode.Equal, r, r, p))):
		return "p"
	case safe(t, then(c, ins(ncode.Equal, r, r, q))):
		return "q"
	}
	return "raw"
}

// becomes checks which sorts the registers have after an instruction that
// follows prepared: those that they had, but for these.
func becomes(t *testing.T, x ncode.Ins, changes map[int]string) {
	t.Helper()
	c := prepared(x)
	if !safe(t, c) {
		t.Errorf("%v is not safe", x)
		return
	}
	p, q := 1, 3
	if _, isChanged := changes[p]; isChanged {
		p = 2
	}
	if _, isChanged := changes[q]; isChanged {
		q = 5
	}
	for r, want := range seen {
		if s, isChanged := changes[r]; isChanged {
			want = s
		}
		if got := sortOf(t, c, r, p, q); got != want {
			t.Errorf("after %v register %d is %s, want %s", x, r, got, want)
		}
	}
}

// forbidden checks that an instruction that follows prepared is not safe.
func forbidden(t *testing.T, x ncode.Ins) {
	t.Helper()
	if safe(t, prepared(x)) {
		t.Errorf("%v is safe", x)
	}
	if !safe(t, prepared(jump(9), x)) {
		t.Errorf("%v is not safe where no path leads", x)
	}
}

// examines checks an instruction that follows prepared and that obeys its rule
// or not.
func examines(t *testing.T, x ncode.Ins, ok bool, changes map[int]string) {
	t.Helper()
	if ok {
		becomes(t, x, changes)
	} else {
		forbidden(t, x)
	}
}

// judges checks Safe of some programs.
func judges(t *testing.T, want bool, l ...ncode.Code) {
	t.Helper()
	for _, c := range l {
		if safe(t, c) != want {
			t.Errorf("Safe of %v is not %v", c, want)
		}
		if ok, complete := isSafe(c); ok != want && complete {
			t.Errorf("the model of Safe of %v is not %v", c, want)
		}
	}
}

// isRaw reports whether a sort is that of an address.
func isRaw(s string) bool { return s != word && s != stale }

// 22.4: the examples of the chapter, and how programs begin.
func TestSafeOfExamples(t *testing.T) {
	load := ins(ncode.Load, 2, 1, 0)
	judges(t, true,
		of(), ncode.Code{Args: 3}, of(getCritical(1, 0), load, out(2)),
		of(out(0), out(1), out(2), out(3), out(4), out(5), out(6), out(7)))
	judges(t, false,
		of(getCritical(1, 0), out(1)), of(load), of(getCritical(1, 0), release(0, 0), load),
		of(ins(ncode.Store, 1, 0, 0)), of(getCritical(1, 0), ins(ncode.Store, 1, 1, 0)))
}

// 22.4: what the instructions that combine B and C make of each pair of sorts.
// Pairs that are not listed are not allowed.
func TestSafeOfArithmetic(t *testing.T) {
	words := map[string]string{"word word": word}
	for op, table := range map[int]map[string]string{
		ncode.Add: {"word word": word, "p word": "p", "word p": "p", "q word": "q", "word q": "q"},
		ncode.Sub: {"word word": word, "p p": word, "q q": word, "p word": "p", "q word": "q"},
		ncode.Mul: words, ncode.And: words, ncode.Less: words,
		ncode.Equal: {"word word": word, "p p": word, "q q": word},
	} {
		for a := range 8 {
			for b := range 8 {
				for c := range 8 {
					sort, ok := table[seen[b]+" "+seen[c]]
					examines(t, ins(op, a, b, c), ok, map[int]string{a: sort})
				}
			}
		}
	}
}

// 22.4: the instructions with one register or two. What they do not use is
// anything.
func TestSafeOfRegisters(t *testing.T) {
	for a := range 8 {
		becomes(t, ins(ncode.Const, a, 200, 4), map[int]string{a: word})
		becomes(t, ins(ncode.Error, a, 200, 4), map[int]string{a: word})
		becomes(t, ncode.Ins{Op: ncode.Jump, A: a, B: 200, C: 4, K: 8}, nil)
		examines(t, ins(ncode.Out, a, 200, 4), seen[a] == word, nil)
		examines(t, ncode.Ins{Op: ncode.JumpIf, A: a, B: 200, C: 4, K: 8}, seen[a] == word, nil)
		judges(t, seen[a] == word, prepared(ins(ncode.Return, a, 200, 4)))
		for b := range 8 {
			examines(t, ins(ncode.Move, a, b, 4), seen[b] != stale, map[int]string{a: seen[b]})
			examines(t, ins(ncode.Load, a, b, 4), isRaw(seen[b]), map[int]string{a: word})
			examines(t, ins(ncode.Store, a, b, 4), isRaw(seen[a]) && seen[b] == word, nil)
		}
	}
}

// 22.4: the calls, also those that are none, with arguments in all registers.
func TestSafeOfCalls(t *testing.T) {
	for op := range 24 {
		for a := range 8 {
			for c := range 9 - codetest.Arguments(op) {
				if c > 7 {
					continue
				}
				x := ins(ncode.Call, a, op, c)
				ok := !slices.ContainsFunc(seen[c:c+codetest.Arguments(op)], func(s string) bool { return s != word })
				changes := map[int]string{a: word}
				switch op {
				case 19:
					changes = map[int]string{a: "raw"}
				case 20:
					changes = map[int]string{1: stale, 2: stale, 3: stale, 5: stale}
					changes[a] = word
				}
				examines(t, x, ok, changes)
			}
		}
	}
	for op := 21; op < 256; op++ {
		becomes(t, ins(ncode.Call, 4, op, 1), map[int]string{4: word})
	}
}

// 22.4: each register from C on may be an argument of an Upcall, whatever it
// calls.
func TestSafeOfUpcalls(t *testing.T) {
	for _, b := range []int{0, 1, 7, 8, 15, 16, 255} {
		for a := range 8 {
			for c := range 8 {
				examines(t, ins(ncode.Upcall, a, b, c), c >= 6, map[int]string{a: word})
				judges(t, true, of(ins(ncode.Upcall, a, b, c)))
				judges(t, a < c, of(getCritical(a, 0), ins(ncode.Upcall, 0, b, c)))
			}
		}
	}
}

// 22.4: what makes a program unsafe wherever it is, also where no path leads.
func TestSafeOfProgramsThatAreNotRunnable(t *testing.T) {
	judges(t, true, codetest.Long(256))
	judges(t, false, codetest.Long(257), ncode.Code{Args: 4}, ncode.Code{Args: -1})
	for _, end := range []ncode.Ins{ins(ncode.Return, 0, 0, 0), jump(2)} {
		hidden := func(x ncode.Ins) ncode.Code { return of(end, x, out(0)) }
		for op := 1; op <= 17; op++ {
			isRegister := slices.Contains([]int{2, 3, 4, 5, 6, 7, 8, 11, 12}, op)
			for b := range 256 {
				judges(t, b < 8 || !isRegister, hidden(ins(op, 0, b, 0)))
			}
			jumps := op == ncode.Jump || op == ncode.JumpIf
			for _, k := range []uint64{0, 3, 4, 1 << 32, 1 << 63, huge} {
				judges(t, k <= 3 || !jumps, hidden(ncode.Ins{Op: op, K: k}))
			}
			judges(t, false, hidden(ins(op, 8, 0, 0)), hidden(ins(op, 0, 256, 0)), hidden(ins(op, 0, 0, 8)))
			judges(t, false, hidden(ins(op, -1, 0, 0)), hidden(ins(op, 0, -1, 0)), hidden(ins(op, 0, 0, -1)))
		}
		for b := range 256 {
			for c := range 8 {
				judges(t, c+codetest.Arguments(b) <= 8, hidden(ins(ncode.Call, 0, b, c)))
			}
		}
		judges(t, false, hidden(ins(0, 0, 0, 0)), hidden(ins(18, 0, 0, 0)), hidden(ins(1<<32+1, 0, 0, 0)))
	}
}
