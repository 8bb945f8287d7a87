package envtest

import (
	"semispace/api"
	"semispace/heaptest"
)

// SomeWord returns the word of a handle that an environment has or had, or
// something else.
func SomeWord(x *heaptest.Numbers, y api.Env) uint64 {
	switch n := x.Below(12); {
	case n < 5 && len(y.Locals.Issued) > 0:
		stamp := 1 + x.Below(len(y.Locals.Issued))
		if n < 3 && len(y.Locals.Slots) > 0 {
			stamp = y.Locals.Slots[x.Below(len(y.Locals.Slots))].Stamp
		}
		return Word(api.Local, y.Locals.Issued[stamp-1], stamp)
	case n < 8 && len(y.Globals.Entries) > 0:
		return someEntry(x, api.Global, y.Globals)
	case n < 11 && len(y.Weaks.Entries) > 0:
		return someEntry(x, api.Weak, y.Weaks)
	}
	forged := Forged()
	return []uint64{0, forged[x.Below(len(forged))], uint64(x.Below(70)), Word(x.Below(4), x.Below(8), x.Below(8))}[x.Below(4)]
}

// someEntry returns the word of a handle in a table, mostly of the last
// generation.
func someEntry(x *heaptest.Numbers, tag int, t api.Table) uint64 {
	i := x.Below(len(t.Entries))
	gen := t.Entries[i].Gen
	if x.Below(4) == 0 {
		gen += x.Below(3) - 1
	}
	return Word(tag, i, gen)
}

// someNumber returns a number of words, of a field or of anything else.
func someNumber(x *heaptest.Numbers) uint64 {
	if x.Below(12) == 0 {
		return uint64(1)<<x.Below(64) - uint64(x.Below(3))
	}
	return uint64(x.Below([]int{2, 4, 20}[x.Below(3)]))
}

// SomeCall returns a boundary call, with arguments that it mostly can have.
func SomeCall(x *heaptest.Numbers, y api.Env) (op int, a, b, c uint64) {
	op, a, b, c = 1+x.Below(20), SomeWord(x, y), someNumber(x), SomeWord(x, y)
	switch op {
	case 1, 2, 3, 17:
		a = someNumber(x)
	case 10:
		b = SomeWord(x, y)
	}
	return op, a, b, c
}
