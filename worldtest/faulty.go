package worldtest

import (
	"math"
	"slices"

	"semispace/api"
	"semispace/envtest"
	"semispace/heaptest"
	"semispace/rules"
)

// Empty is a world with nothing in it.
func Empty() rules.World { return rules.World{Conf: heaptest.Conf} }

// Referring are copies of Ordinary in which one reference of each kind, at the
// beginning and at the end, is this one.
func Referring(id uint64) []rules.World {
	return Each(Ordinary(),
		func(w *rules.World) { w.Things[0].Fields[0] = id },
		func(w *rules.World) { w.Things[0].Fields[2] = id },
		func(w *rules.World) { w.Things[6].Fields[0] = id },
		func(w *rules.World) { w.Things[6].Fields[9] = id },
		func(w *rules.World) { w.Things[6].Fields[18] = id },
		func(w *rules.World) { w.Things[7].Fields[1] = id },
		func(w *rules.World) { w.Things[12] = Refs(0, id) },
		func(w *rules.World) { w.Things[1] = Record(1, id) }, // which cannot be reached
		func(w *rules.World) { w.Things[1] = Record(1<<31, append(make([]uint64, 31), id)...) },
		func(w *rules.World) { w.Things[1] = Refs(append(make([]uint64, 254), id)...) },
		func(w *rules.World) { w.Roots[0] = id },
		func(w *rules.World) { w.Roots[3] = id },
		func(w *rules.World) { w.Roots = append(w.Roots, id) },
		func(w *rules.World) { w.Weaks.Entries[0].Ref = id },
		func(w *rules.World) { w.Weaks.Entries[6].Ref = id },
		func(w *rules.World) { w.Weaks.Entries[3].Ref = id },
	)
}

// Holding are copies of Ordinary in which one reference of each kind that must
// not be null is this one.
func Holding(id uint64) []rules.World {
	return Each(Ordinary(),
		func(w *rules.World) { w.Locals.Slots[0].Ref = id },
		func(w *rules.World) { w.Locals.Slots[2].Ref = id },
		func(w *rules.World) { w.Locals.Slots[4].Ref = id },
		func(w *rules.World) { w.Globals.Entries[1].Ref = id },
		func(w *rules.World) { w.Globals.Entries[3].Ref = id },
		func(w *rules.World) { w.Globals.Entries = append(w.Globals.Entries, envtest.Live(1, id)) },
		func(w *rules.World) { w.Marks[0].Id = id },
		func(w *rules.World) { w.Marks[2].Id = id },
	)
}

// badThings are copies of Ordinary with a configuration that is not valid, or
// with a thing that is no object, though what it refers to would be right.
func badThings() []rules.World {
	l := Each(Ordinary(),
		func(w *rules.World) { w.Conf.PageWords = 12 },
		func(w *rules.World) { w.Conf.PageWords = 68 },
		func(w *rules.World) { w.Conf.PageWords = 18 },
		func(w *rules.World) { w.Conf.Pages = 7 },
		func(w *rules.World) { w.Conf.Pages = 65 },
		func(w *rules.World) { w.Conf = api.Conf{} },
		func(w *rules.World) { w.Things[0].Fields = w.Things[0].Fields[:2] },
		func(w *rules.World) { w.Things[0].Fields = append(w.Things[0].Fields, 0) },
		func(w *rules.World) { w.Things[0].Header.Length = 4 },
		func(w *rules.World) { w.Things[6].Header.Length = 18 },
		func(w *rules.World) { w.Things[12].Fields = nil },
		func(w *rules.World) { w.Things[3].Fields = []uint64{0} },
	)
	long := make([]uint64, 256)
	for _, y := range []rules.Thing{
		{}, {Header: api.Header{Kind: api.Filler}}, {Header: api.Header{Kind: api.Filler, Length: 1}, Fields: []uint64{0}},
		{Header: api.Header{Kind: 4}}, {Header: api.Header{Kind: -1}}, {Header: api.Header{Kind: math.MinInt}}, {Header: api.Header{Kind: 5}},
		{Header: api.Header{Kind: api.Words, Length: -1}}, {Header: api.Header{Kind: api.Record, Length: -1}}, {Header: api.Header{Kind: api.Refs, Length: math.MinInt}},
		{Header: api.Header{Kind: api.Refs, Length: math.MaxInt}}, {Header: api.Header{Kind: api.Record, Length: 1 << 32}},
		{Header: api.Header{Kind: api.Words, Map: 1}}, {Header: api.Header{Kind: api.Refs, Length: 1, Map: 1}, Fields: []uint64{0}},
		Record(0, long[:33]...), Record(2, 0), Record(1), Record(1<<31, long[:31]...), Words(long...), Refs(long...),
	} {
		l = append(l, Each(Ordinary(),
			func(w *rules.World) { w.Things[1] = y },
			func(w *rules.World) { w.Things = append(w.Things, y) },
		)...)
	}
	return append(l, rules.World{}, Changed(Empty(), func(w *rules.World) { w.Things = []rules.Thing{{}} }))
}

// badHandles are copies of Ordinary in which the locals or a table are not valid,
// or a global handle has no thing.
func badHandles() []rules.World {
	return Each(Ordinary(),
		func(w *rules.World) { w.Locals.Slots[1].Ref = 1 },
		func(w *rules.World) { w.Locals.Slots[2].Ref = 0 },
		func(w *rules.World) { w.Locals.Slots[2].Live = false },
		func(w *rules.World) { w.Locals.Issued[4] = 4096 },
		func(w *rules.World) { w.Locals.Issued = w.Locals.Issued[:6] },
		func(w *rules.World) { w.Locals.Issued = append(w.Locals.Issued, make([]int, 4090)...) },
		func(w *rules.World) { w.Locals.Scopes[0].Base = false },
		func(w *rules.World) { w.Locals.Scopes[0].Cap = 1 },
		func(w *rules.World) { w.Locals.Scopes[1].Cap = 65 },
		func(w *rules.World) { w.Locals.Scopes = nil },
		func(w *rules.World) { w.Locals.Scopes = append(w.Locals.Scopes, make([]api.Scope, 62)...) },
		func(w *rules.World) { w.Globals.Entries[0].Gen = 0 },
		func(w *rules.World) { w.Globals.Entries[1].Gen = envtest.MaxGen + 1 },
		func(w *rules.World) { w.Globals.Entries[1].Live = false },
		func(w *rules.World) { w.Globals.Entries[2].Ref = 1 },
		func(w *rules.World) { w.Globals.Entries = slices.Repeat(w.Globals.Entries[1:2], 65) },
		func(w *rules.World) { w.Globals.Entries[1].Ref = 0 },
		func(w *rules.World) { w.Globals.Entries[3].Ref = 0 },
		func(w *rules.World) { w.Globals.Entries[0].Live = true },
		func(w *rules.World) { w.Weaks.Entries[0].Gen = 0 },
		func(w *rules.World) { w.Weaks.Entries[4].Gen = envtest.MaxGen + 1 },
		func(w *rules.World) { w.Weaks.Entries[1].Live = false },
		func(w *rules.World) { w.Weaks.Entries[2].Ref = 1 },
		func(w *rules.World) { w.Weaks.Entries = slices.Repeat(w.Weaks.Entries[1:2], 65) },
	)
}

// badMarks are copies of Ordinary, and a world with as many marks as there may
// be, with marks that are not valid.
func badMarks() []rules.World {
	l := Each(Of(envtest.FullHouse()), func(w *rules.World) { w.Marks = append(w.Marks, rules.Mark{Id: 65, Count: 1}) })
	for _, n := range []int{0, -1, 1001, 1002, math.MinInt, math.MaxInt, 1 << 32} {
		l = append(l, Each(Ordinary(),
			func(w *rules.World) { w.Marks[0].Count = n },
			func(w *rules.World) { w.Marks[2].Count = n },
			func(w *rules.World) { w.Marks = append(w.Marks, rules.Mark{Id: 1, Count: n}) },
		)...)
	}
	return append(l, Each(Ordinary(),
		func(w *rules.World) { w.Marks[0].Id = 13 },
		func(w *rules.World) { w.Marks[2].Id = 9 },
		func(w *rules.World) { w.Marks = append(w.Marks, w.Marks[1]) },
		func(w *rules.World) { w.Marks = append(w.Marks, rules.Mark{Id: 10, Count: 1}) },
	)...)
}

// Corrupt are worlds that are not valid, most of them in one thing.
func Corrupt() []rules.World {
	l := slices.Concat(badThings(), badHandles(), badMarks(), Holding(0))
	for _, id := range []uint64{14, 15, 4096, 1<<32 + 1, 1<<63 + 1, 1<<64 - 1} {
		l = append(l, slices.Concat(Referring(id), Holding(id))...)
	}
	return l
}

// Allowed are worlds that are valid at the last value that is allowed, or
// strange.
func Allowed() []rules.World {
	l := []rules.World{Empty(), {Conf: heaptest.Wide}, Ordinary(), Of(envtest.FullHouse())}
	for id := uint64(0); id <= 13; id++ {
		l = append(l, Referring(id)...)
	}
	for _, id := range []uint64{1, 2, 3, 12} {
		l = append(l, Holding(id)...)
	}
	for _, y := range []rules.Thing{
		Words(make([]uint64, 255)...), Refs(slices.Repeat([]uint64{14}, 255)...), Record(1<<32-1, slices.Repeat([]uint64{14}, 32)...),
		Record(0, slices.Repeat([]uint64{1<<64 - 1}, 32)...), Words(0, 14, 1<<64-1), Record(1, 14, 15), Refs(), Words(), Record(0),
	} {
		l = append(l, Changed(Ordinary(), func(w *rules.World) { w.Things = append(w.Things, y) }))
	}
	return append(l, Each(Ordinary(),
		func(w *rules.World) { w.Conf = heaptest.Wide },
		func(w *rules.World) { w.Roots = nil },
		func(w *rules.World) { w.Roots = slices.Repeat([]uint64{7, 0}, 3000) },
		func(w *rules.World) { w.Locals = api.Locals{} },
		func(w *rules.World) { w.Locals = api.Locals{Issued: []int{4095, 0}} },
		func(w *rules.World) { w.Globals, w.Weaks = api.Table{}, api.Table{} },
		func(w *rules.World) {
			w.Globals.Entries = slices.Repeat([]api.Entry{envtest.Live(envtest.MaxGen, 13)}, 64)
		},
		func(w *rules.World) {
			w.Weaks.Entries = slices.Repeat([]api.Entry{envtest.Live(envtest.MaxGen, 0)}, 64)
		},
		func(w *rules.World) { w.Marks = nil },
		func(w *rules.World) { w.Marks[0].Count, w.Marks[2].Count = 1, 1000 },
		func(w *rules.World) { w.Marks[0].Base, w.Marks[1].Base, w.Marks[2].Base = 0, 1<<64-1, 0 },
		func(w *rules.World) { slices.Reverse(w.Marks) },
		func(w *rules.World) { w.Marks = []rules.Mark{{Id: 2, Count: 1}, {Id: 1, Count: 1}} },
	)...)
}
