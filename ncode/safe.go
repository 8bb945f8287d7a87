package ncode

import "semispace/boundary"

// sort says what a register holds: a number from 0 on that it is an address
// which the GetCritical with this index has returned, or one some words away
// from it.
type sort int

const (
	word  sort = -1 - iota // no address
	stale                  // perhaps an address that is of no use any more
)

func (s sort) raw() bool { return s >= 0 }

// sorts are those of all registers.
type sorts [Registers]sort

// Safe reports whether a program cannot see addresses.
func Safe(c Code) bool {
	if !runnable(c) {
		return false
	}
	before := map[int]sorts{0: onlyWords()} // of the instructions that can be reached
rounds:
	for {
		for i, x := range c.Ins {
			s, reached := before[i]
			if !reached {
				continue
			}
			if !s.obey(x) {
				return false
			}
			for _, to := range targets(i, x) {
				// What has been seen of an earlier instruction may hold no longer.
				if meet(before, to, s.after(i, x)) && to <= i {
					continue rounds
				}
			}
		}
		return true
	}
}

func onlyWords() (s sorts) {
	for r := range s {
		s[r] = word
	}
	return s
}

// targets returns the indexes to which paths lead from instruction i.
func targets(i int, x Ins) []int {
	switch x.Op {
	case Return:
		return nil
	case Jump:
		return []int{int(x.K)}
	case JumpIf:
		return []int{i + 1, int(x.K)}
	}
	return []int{i + 1}
}

// meet adds a path on which the registers have the sorts s before an
// instruction, and reports whether that changes anything.
func meet(before map[int]sorts, to int, s sorts) bool {
	old, reached := before[to]
	for r := range s {
		if reached && s[r] != old[r] {
			s[r] = stale
		}
	}
	before[to] = s
	return !reached || s != old
}

// obey reports whether an instruction obeys its rule with these sorts before it.
func (s sorts) obey(x Ins) bool {
	switch x.Op {
	case Move:
		return s[x.B] != stale
	case Add:
		return s[x.B] == word && s[x.C] != stale || s[x.B].raw() && s[x.C] == word
	case Sub:
		return s.comparable(x) || s[x.B].raw() && s[x.C] == word
	case Equal:
		return s.comparable(x)
	case Mul, And, Less:
		return s[x.B] == word && s[x.C] == word
	case JumpIf, Out, Return:
		return s[x.A] == word
	case Load:
		return s[x.B].raw()
	case Store:
		return s[x.A].raw() && s[x.B] == word
	case Call:
		return s.words(x.C, Args(x.B))
	case Upcall:
		// A program may be called with any functions, so each register may be an
		// argument.
		return s.words(x.C, Registers-x.C)
	}
	return true
}

// comparable reports whether B and C of an instruction are words, or addresses
// from the same GetCritical.
func (s sorts) comparable(x Ins) bool { return s[x.B] == s[x.C] && s[x.B] != stale }

// words reports whether n registers from one on are words.
func (s sorts) words(from, n int) bool {
	for _, t := range s[from : from+n] {
		if t != word {
			return false
		}
	}
	return true
}

// after returns the sorts after instruction i, which obeys its rule.
func (s sorts) after(i int, x Ins) sorts {
	switch x.Op {
	case Jump, JumpIf, Store, Out, Return:
		return s
	case Call:
		return s.called(i, x)
	}
	s[x.A] = s.result(x)
	return s
}

// called returns the sorts after the Call at i. No register holds an address of
// the GetCritical at i before it: on the first path to it none can, so where
// another path brings one, the register is stale already.
func (s sorts) called(i int, x Ins) sorts {
	s[x.A] = word
	switch x.B {
	case boundary.GetCritical:
		s[x.A] = sort(i)
	case boundary.Release:
		for r, t := range s {
			if t.raw() {
				s[r] = stale
			}
		}
	}
	return s
}

// result returns the sort of what an instruction that obeys its rule writes into
// register A.
func (s sorts) result(x Ins) sort {
	switch x.Op {
	case Move:
		return s[x.B]
	case Add:
		// One of them is a word, and words are less than addresses.
		return max(s[x.B], s[x.C])
	case Sub:
		if s[x.C] == word {
			return s[x.B]
		}
	}
	return word
}
