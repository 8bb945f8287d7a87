package nmach_test

import (
	"slices"
	"testing"

	"semispace/api"
	"semispace/boundary"
	"semispace/envtest"
	"semispace/heaptest"
	"semispace/ncode"
	"semispace/nmach"
)

// sum adds up the fields of its first argument, as many as the second one says,
// and writes every sum. It returns the number of fields.
func sum() ncode.Code {
	return ncode.Code{Args: 2, Ins: []ncode.Ins{
		ins(ncode.Call, 2, boundary.GetCritical, 0),
		set(5, 1),
		ins(ncode.Equal, 6, 3, 1), // the registers 3 and 4 begin with 0
		jumpIf(6, 10),
		ins(ncode.Add, 7, 2, 3),
		ins(ncode.Load, 7, 7, 0),
		ins(ncode.Add, 4, 4, 7),
		ins(ncode.Out, 4, 0, 0),
		ins(ncode.Add, 3, 3, 5),
		jump(2),
		ins(ncode.Call, 6, boundary.Release, 0),
		ins(ncode.Error, 6, 0, 0),
		ins(ncode.Out, 6, 0, 0),
		ins(ncode.Return, 3, 0, 0),
		ins(ncode.Out, 5, 0, 0),
	}}
}

// runs runs a program with arguments on both sides, to its end. It returns what
// it writes, and the last event.
func (p place) runs(t *testing.T, c ncode.Code, args ...uint64) ([]uint64, nmach.Event) {
	t.Helper()
	f, e := nmach.Start(c, args)
	if e != api.OK {
		t.Fatalf("error %d", e)
	}
	n := heaptest.Numbers(1)
	b := both{t: t, Numbers: &n, place: p, f: f, count: envtest.Counts{}}
	var written []uint64
	for range 1000 {
		v, goesOn := b.step(c)
		if v.Kind == nmach.Wrote {
			written = append(written, v.Value)
		}
		if !goesOn {
			return written, v
		}
	}
	t.Fatalf("%v does not end", c)
	return nil, nmach.Event{}
}

// 23.1 to 23.3: a whole program, which ends in several ways.
func TestProgram(t *testing.T) {
	p := begun(4)
	p.calls(t, boundary.NewWords, []uint64{3}, noFact, local(0, 1), api.OK)
	for i := range uint64(3) {
		p.calls(t, boundary.SetWord, []uint64{local(0, 1), i, i + 5}, noFact, 0, api.OK)
	}
	returns := func(v uint64) nmach.Event { return nmach.Event{Kind: nmach.Returns, Value: v} }
	for _, y := range []struct {
		h, n    uint64
		written []uint64
		want    nmach.Event
	}{
		{local(0, 1), 3, []uint64{5, 11, 18, 0}, returns(3)},
		{local(0, 1), 0, []uint64{0}, returns(0)},
		{local(0, 1), 5, []uint64{5, 11, 18, 18, 18, uint64(api.ErrExtent)}, returns(5)},
		{local(0, 2), 1, []uint64{0, uint64(api.ErrForged)}, returns(1)},
		{0, 1, []uint64{0, uint64(api.ErrNull)}, returns(1)},
	} {
		if written, v := p.runs(t, sum(), y.h, y.n); !slices.Equal(written, y.written) || v != y.want {
			t.Errorf("of %d, %d: %v, %v, want %v, %v", y.h, y.n, written, v, y.want, y.written)
		}
	}
	careless := sum()
	careless.Ins[10] = set(6, 0) // with pins, Return leads to the next instruction
	if written, v := p.runs(t, careless, local(0, 1), 1); !slices.Equal(written, []uint64{5, 0, 1}) || v != (nmach.Event{Kind: nmach.Ends}) {
		t.Errorf("%v, %v", written, v)
	}
}
