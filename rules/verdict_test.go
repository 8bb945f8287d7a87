package rules_test

import (
	"math"
	"slices"
	"testing"

	"semispace/api"
	"semispace/boundary"
	"semispace/envtest"
	"semispace/heaptest"
	"semispace/rules"
	"semispace/worldtest"
)

// The examples of chapter 20.
func TestExamples(t *testing.T) {
	refuses(t, worldtest.Empty(), request{boundary.NewWords, 3, 0, 0}, api.ErrScope)
	refuses(t, worldtest.Ordinary(), request{boundary.Length, envtest.Word(api.Local, 9, 9), 0, 0}, api.ErrForged)
}

// 20.3: numbers that are those of no call, with arguments of calls and others.
func TestNoCall(t *testing.T) {
	for _, w := range []rules.World{roomy(), worldtest.Empty(), stuck(), outside()} {
		for _, op := range []int{math.MinInt, math.MinInt32, -20, -1, 0, 21, 22, 40, 255, 256 + 4, math.MaxInt32, math.MaxInt} {
			refuses(t, w, request{op, local6, 1, 1}, api.ErrArg)
			refuses(t, w, request{op, 0, 0, 0}, api.ErrArg)
			refuses(t, w, request{op, 4, huge, 4}, api.ErrArg)
		}
	}
}

// 20.3: all calls that have no error in one world or another, and those that the
// real system can fail in.
func TestAllowed(t *testing.T) {
	w := roomy()
	for _, r := range []request{
		{boundary.Length, local6, huge, huge}, {boundary.Kind, weak1, huge, huge}, {boundary.GetWord, weak1, 1, huge}, {boundary.SetWord, global9, 1, huge},
		{boundary.GetRef, weak1, 0, huge}, {boundary.GetRef, weak7, 2, 4}, {boundary.SetRef, local7, 18, cleared}, {boundary.SetRef, local12, 0, local12},
		{boundary.Same, weak5, local6, huge}, {boundary.Same, 0, cleared, 4}, {boundary.NewLocal, global4, 4, 4}, {boundary.NewLocal, 0, 4, 4},
		{boundary.DeleteLocal, local6, 4, 4}, {boundary.NewGlobal, weak3, 4, 4}, {boundary.DeleteGlobal, global4, 4, 4},
		{boundary.NewWeak, global9, 4, 4}, {boundary.DeleteWeak, weak7, 4, 4}, {boundary.DeleteWeak, cleared, 4, 4},
		{boundary.PushScope, 64, 4, 4}, {boundary.PopScope, local6, 4, 4}, {boundary.PopScope, 0, 4, 4},
		{boundary.GetCritical, local6, 4, 4}, {boundary.GetCritical, global9, 4, 4}, {boundary.GetCritical, global4, 4, 4}, {boundary.Release, global9, 4, 4},
	} {
		allows(t, w, r)
	}
	w = outsideOf(w)
	for _, r := range []request{{boundary.NewRecord, 2, 3, 4}, {boundary.NewRefs, 63, huge, huge}, {boundary.NewWords, 0, huge, 4}} {
		allows(t, w, r)
	}
}

// 20.3: the errors of NewRecord, NewRefs and NewWords, in their order: at first
// there are all of them, and then one after the other is put right.
func TestNewErrors(t *testing.T) {
	for _, op := range []int{boundary.NewRecord, boundary.NewRefs, boundary.NewWords} {
		bad, good := request{op, 64, 1 << 32, 0}, request{op, 9, 3, 0}
		w := worldtest.Changed(outside(), issuedBut(0))
		refuses(t, w, bad, api.ErrCritical)
		refuses(t, w, good, api.ErrCritical)
		w.Marks = w.Marks[2:]
		refuses(t, w, bad, api.ErrCritical)
		w.Marks = nil
		refuses(t, w, bad, api.ErrArg)
		refuses(t, w, good, api.ErrScope)
		w.Locals.Scopes = []api.Scope{{Cap: 0, Base: true}}
		refuses(t, w, bad, api.ErrArg)
		refuses(t, w, good, api.ErrCapacity)
		w.Locals.Scopes[0].Cap = 1
		refuses(t, w, bad, api.ErrArg)
		refuses(t, w, good, api.ErrFull)
		w.Locals.Issued = w.Locals.Issued[1:]
		refuses(t, w, bad, api.ErrArg)
		allows(t, w, good)
	}
}

// asks checks which lengths can be asked for.
func asks(t *testing.T, c api.Conf, op int, pointers, most uint64) {
	t.Helper()
	w := frame(c, 1)
	for n := range uint64(300) {
		r := request{op, n, pointers, huge}
		if n <= most {
			allows(t, w, r)
		} else {
			refuses(t, w, r, api.ErrArg)
		}
	}
	for _, n := range []uint64{
		4096, 1<<12 + 1, 1 << 16, 1<<31 - 1, 1 << 31, 1<<31 + 1, 1 << 32, 1<<32 + 1, 1<<63 - 1, 1 << 63, 1<<63 + 1, huge - 1, huge,
	} {
		refuses(t, w, request{op, n, pointers, 0}, api.ErrArg)
	}
}

// 20.3: the lengths of objects, from the first to the last one and beyond.
func TestLengths(t *testing.T) {
	for _, op := range []int{boundary.NewRefs, boundary.NewWords} {
		for _, unused := range []uint64{0, 1, 1 << 32, huge} {
			asks(t, heaptest.Conf, op, unused, 63)
		}
		asks(t, api.Conf{PageWords: 20, Pages: 8}, op, 0, 79)
		asks(t, heaptest.Wide, op, 0, 255)
	}
	asks(t, heaptest.Conf, boundary.NewRecord, 0, 32)
	asks(t, heaptest.Wide, boundary.NewRecord, 0, 32)
}

// 20.3: the maps of records, from the first to the last one and beyond.
func TestMaps(t *testing.T) {
	w := frame(heaptest.Wide, 1)
	for n := range uint64(33) {
		for _, m := range []uint64{0, 1, 1 << n / 2, 1<<n - 1, 1 << n, 1<<n + 1, 1<<32 - 1, 1 << 32, 1<<32 + 1, 1 << 63, huge} {
			if r := (request{boundary.NewRecord, n, m, 0}); m < 1<<n {
				allows(t, w, r)
			} else {
				refuses(t, w, r, api.ErrArg)
			}
		}
	}
}

// objectCalls are the calls that begin with the object of a.
var objectCalls = []int{
	boundary.Length, boundary.Kind, boundary.GetWord, boundary.SetWord, boundary.GetRef, boundary.SetRef,
	boundary.NewGlobal, boundary.NewWeak, boundary.GetCritical, boundary.Release,
}

// 20.3: words that cannot be resolved, and null, come before everything else
// that is wrong.
func TestNoObject(t *testing.T) {
	for _, op := range objectCalls {
		for _, w := range []rules.World{worldtest.Ordinary(), stuck()} {
			for _, b := range []uint64{0, 3, huge} {
				for v, e := range envtest.Unusable() {
					refuses(t, w, request{op, v, b, stale}, e)
				}
				refuses(t, w, request{op, 0, b, 4}, api.ErrNull)
				refuses(t, w, request{op, cleared, b, 4}, api.ErrNull)
			}
		}
		refuses(t, outside(), request{op, local6, 0, 4}, api.ErrStale)
		refuses(t, outside(), request{op, 0, 0, 4}, api.ErrNull)
		refuses(t, worldtest.Empty(), request{op, local6, 0, 4}, api.ErrForged)
	}
}

// 20.3: fields that are not there, and then those of the other kind, come before
// all that concerns the value or a handle.
func TestFieldErrors(t *testing.T) {
	w := stuck()
	for v, n := range map[uint64]uint64{local6: 3, local7: 19, global9: 2, global4: 0, weak5: 0, weak1: 3, weak3: 1} {
		for op := boundary.GetWord; op <= boundary.SetRef; op++ {
			for _, b := range []uint64{n, n + 1, 32, 255, 1 << 32, 1 << 63, 1<<63 + 1, huge} {
				refuses(t, w, request{op, v, b, 4}, api.ErrRange)
				refuses(t, outside(), request{op, global4, b, stale}, api.ErrRange)
			}
		}
	}
	for _, y := range []struct{ h, i uint64 }{{weak1, 0}, {weak1, 2}, {local6, 0}, {local7, 18}} {
		refuses(t, w, request{boundary.GetWord, y.h, y.i, 0}, api.ErrKind)
		refuses(t, w, request{boundary.SetWord, y.h, y.i, 4}, api.ErrKind)
		for v, e := range envtest.Unusable() {
			refuses(t, w, request{boundary.SetRef, y.h, y.i, v}, e)
		}
		for _, v := range []uint64{0, cleared, local12, weak1} {
			allows(t, w, request{boundary.SetRef, y.h, y.i, v})
		}
	}
	for _, y := range []struct{ h, i uint64 }{{weak1, 1}, {global9, 0}, {global9, 1}, {weak3, 0}} {
		allows(t, w, request{boundary.GetWord, y.h, y.i, 4})
		allows(t, w, request{boundary.SetWord, y.h, y.i, huge})
		refuses(t, w, request{boundary.GetRef, y.h, y.i, 0}, api.ErrKind)
		refuses(t, w, request{boundary.SetRef, y.h, y.i, 0}, api.ErrKind)
		refuses(t, w, request{boundary.SetRef, y.h, y.i, 4}, api.ErrKind)
		refuses(t, w, request{boundary.SetRef, y.h, y.i, stale}, api.ErrKind)
	}
}

// 20.3: the fields of the longest things, and all their pointers.
func TestLongThings(t *testing.T) {
	w := worldtest.Changed(outside(), func(w *rules.World) {
		w.Conf = heaptest.Wide
		w.Things = append(w.Things, worldtest.Record(1<<31+5, make([]uint64, 32)...), worldtest.Refs(make([]uint64, 255)...), worldtest.Words(make([]uint64, 255)...))
		w.Globals.Entries = []api.Entry{envtest.Live(1, 14), envtest.Live(1, 15), envtest.Live(1, 16)}
	})
	for k, y := range w.Things[13:] {
		h := envtest.Word(api.Global, k, 1)
		for i := range y.Fields {
			forWords, forRefs := allows, allows
			isPointer := slices.Contains(worldtest.Pointers(y), i)
			refused := func(t *testing.T, w rules.World, r request) {
				t.Helper()
				refuses(t, w, r, api.ErrKind)
			}
			if isPointer {
				forWords = refused
			} else {
				forRefs = refused
			}
			forWords(t, w, request{boundary.GetWord, h, uint64(i), 0})
			forWords(t, w, request{boundary.SetWord, h, uint64(i), 0})
			forRefs(t, w, request{boundary.GetRef, h, uint64(i), 0})
			forRefs(t, w, request{boundary.SetRef, h, uint64(i), 0})
		}
		refuses(t, w, request{boundary.GetWord, h, uint64(len(y.Fields)), 0}, api.ErrRange)
		refuses(t, w, request{boundary.SetRef, h, uint64(len(y.Fields)), 0}, api.ErrRange)
	}
}

// noLocals are worlds in which there can be no other local handle, by the error
// for it, in most of them with another error at once.
func noLocals() map[api.Errno][]rules.World {
	return map[api.Errno][]rules.World{
		api.ErrScope:    {outside(), worldtest.Changed(outside(), issuedBut(0))},
		api.ErrCapacity: {worldtest.Ordinary(), stuck()},
		api.ErrFull:     {issuedAll()},
	}
}

// 20.3: GetRef and NewLocal, if there can be no other handle. Null needs none.
func TestNoLocal(t *testing.T) {
	for e, l := range noLocals() {
		for _, w := range l {
			refuses(t, w, request{boundary.GetRef, weak1, 0, 0}, e)
			refuses(t, w, request{boundary.GetRef, weak7, 18, 0}, e)
			refuses(t, w, request{boundary.NewLocal, global9, 0, 0}, e)
			refuses(t, w, request{boundary.NewLocal, weak5, 0, 0}, e)
			refuses(t, w, request{boundary.NewLocal, 4, 0, 0}, api.ErrForged)
			allows(t, w, request{boundary.GetRef, weak7, 2, 0})
			allows(t, w, request{boundary.GetRef, weak7, 17, 0})
			allows(t, w, request{boundary.NewLocal, 0, 0, 0})
			allows(t, w, request{boundary.NewLocal, cleared, 0, 0})
		}
	}
	for v, e := range envtest.Unusable() {
		refuses(t, worldtest.Ordinary(), request{boundary.NewLocal, v, 0, 0}, e)
	}
	w := worldtest.Changed(roomy(), issuedBut(1))
	allows(t, w, request{boundary.NewLocal, global4, 0, 0})
	allows(t, w, request{boundary.GetRef, weak1, 2, 0})
}

// 20.3: both words of Same are resolved, the first one first.
func TestSame(t *testing.T) {
	usable := []uint64{0, cleared, local6, again6, local12, global9, weak1}
	for _, v := range usable {
		for _, other := range usable {
			allows(t, worldtest.Ordinary(), request{boundary.Same, v, other, 4})
		}
	}
	for v, e := range envtest.Unusable() {
		for _, other := range append(usable, 4, stale, deleted) {
			refuses(t, worldtest.Ordinary(), request{boundary.Same, v, other, 0}, e)
		}
		for _, first := range usable {
			refuses(t, worldtest.Ordinary(), request{boundary.Same, first, v, 0}, e)
		}
		refuses(t, worldtest.Ordinary(), request{boundary.Same, v, v, 0}, e)
	}
}

// 20.3: handles that can be deleted, and those that cannot: null, those that are
// no handles any more, also with another tag, and those with another tag.
func TestDelete(t *testing.T) {
	handles := map[int][]uint64{
		boundary.DeleteLocal:  {local6, again6, local7, local12},
		boundary.DeleteGlobal: {global9, global4},
		boundary.DeleteWeak:   {weak5, weak1, weak3, weak7, cleared},
	}
	for op := range handles {
		for _, w := range []rules.World{worldtest.Ordinary(), stuck()} {
			refuses(t, w, request{op, 0, local6, local6}, api.ErrNull)
			for v, e := range envtest.Unusable() {
				refuses(t, w, request{op, v, 0, 0}, e)
			}
			for other, l := range handles {
				for _, v := range l {
					if other == op {
						allows(t, w, request{op, v, 4, 4})
					} else {
						refuses(t, w, request{op, v, 0, 0}, api.ErrKind)
					}
				}
			}
		}
	}
}

// 20.3: as many global or weak handles as there may be, and one more.
func TestTables(t *testing.T) {
	for _, op := range []int{boundary.NewGlobal, boundary.NewWeak} {
		other := boundary.NewGlobal + boundary.NewWeak - op
		table := func(w *rules.World) *api.Table {
			if op == boundary.NewGlobal {
				return &w.Globals
			}
			return &w.Weaks
		}
		for n := range 65 {
			w := worldtest.Changed(roomy(), func(w *rules.World) {
				w.Globals, w.Weaks = api.Table{}, api.Table{}
				table(w).Entries = slices.Repeat([]api.Entry{envtest.Live(1, 3)}, n)
			})
			allows(t, w, request{other, local6, 0, 0})
			if n < 64 {
				allows(t, w, request{op, local6, 0, 0})
				continue
			}
			refuses(t, w, request{op, local6, 0, 0}, api.ErrFull)
			for _, i := range []int{0, 31, 63} {
				table(&w).Entries[i] = envtest.Dead(envtest.MaxGen)
				refuses(t, w, request{op, local6, 0, 0}, api.ErrFull)
				table(&w).Entries[i].Gen--
				allows(t, w, request{op, local6, 0, 0})
				table(&w).Entries[i].Gen++
			}
		}
		refuses(t, stuck(), request{op, local6, 0, 0}, api.ErrFull)
	}
}

// 20.3: the errors of PushScope, in their order.
func TestPushScope(t *testing.T) {
	deep := worldtest.Changed(worldtest.Ordinary(), func(w *rules.World) {
		w.Locals.Scopes = append(w.Locals.Scopes, slices.Repeat([]api.Scope{{From: 5}}, 61)...)
	})
	for _, a := range []uint64{65, 66, 1 << 32, 1<<32 + 1, 1 << 63, 1<<63 + 1, huge} {
		for _, w := range []rules.World{outside(), deep, roomy()} {
			refuses(t, w, request{boundary.PushScope, a, 0, 0}, api.ErrArg)
		}
	}
	for _, a := range []uint64{0, 1, 63, 64} {
		refuses(t, outside(), request{boundary.PushScope, a, 0, 0}, api.ErrScope)
		refuses(t, deep, request{boundary.PushScope, a, 0, 0}, api.ErrDepth)
		for _, n := range []int{1, 3, 62, 63} {
			allows(t, worldtest.Changed(deep, func(w *rules.World) {
				if w.Locals.Scopes = w.Locals.Scopes[:n]; n == 1 {
					w.Locals.Scopes[0].Cap = 64
				}
			}), request{boundary.PushScope, a, 0, 0})
		}
	}
}

// 20.3: the errors of PopScope, in their order: the word, the scope, and then a
// handle in the scope around it.
func TestPopScope(t *testing.T) {
	base := worldtest.Changed(worldtest.Ordinary(), func(w *rules.World) { w.Locals.Scopes[2].Base = true })
	for v, e := range envtest.Unusable() {
		refuses(t, base, request{boundary.PopScope, v, 0, 0}, e)
		refuses(t, roomy(), request{boundary.PopScope, v, 0, 0}, e)
	}
	for _, v := range []uint64{0, cleared, global9} {
		refuses(t, base, request{boundary.PopScope, v, 0, 0}, api.ErrScope)
		refuses(t, outside(), request{boundary.PopScope, v, 0, 0}, api.ErrScope)
		refuses(t, worldtest.Changed(base, issuedBut(0)), request{boundary.PopScope, v, 0, 0}, api.ErrScope)
	}
	refuses(t, outside(), request{boundary.PopScope, local6, 0, 0}, api.ErrStale)
	full := worldtest.Changed(roomy(), func(w *rules.World) { w.Locals.Scopes[1].Cap = 0 })
	for _, v := range []uint64{local6, local7, weak1} {
		allows(t, worldtest.Ordinary(), request{boundary.PopScope, v, 0, 0}) // in which the last scope is full
		refuses(t, full, request{boundary.PopScope, v, 0, 0}, api.ErrCapacity)
		refuses(t, worldtest.Changed(full, issuedBut(0)), request{boundary.PopScope, v, 0, 0}, api.ErrCapacity)
		refuses(t, issuedAll(), request{boundary.PopScope, v, 0, 0}, api.ErrFull)
		allows(t, worldtest.Changed(roomy(), issuedBut(1)), request{boundary.PopScope, v, 0, 0})
	}
	for _, v := range []uint64{0, cleared} {
		allows(t, full, request{boundary.PopScope, v, 0, 0})
		allows(t, issuedAll(), request{boundary.PopScope, v, 0, 0})
	}
}

// 20.3: things that are pinned, and how often, whatever addresses they have.
func TestCritical(t *testing.T) {
	w := worldtest.Changed(roomy(), func(w *rules.World) {
		w.Marks = []rules.Mark{{Id: 9, Count: 1000, Base: 50}, {Id: 6, Count: 999, Base: 50}, {Id: 1, Count: 1, Base: huge}}
	})
	refuses(t, w, request{boundary.GetCritical, global9, 0, 0}, api.ErrFull)
	for _, v := range []uint64{local6, weak1, local12, global4, weak3} {
		allows(t, w, request{boundary.GetCritical, v, 0, 0})
	}
	for _, v := range []uint64{global9, local6, again6, weak1} {
		allows(t, w, request{boundary.Release, v, 0, 0})
	}
	for _, v := range []uint64{local12, global4, weak3, local7} {
		refuses(t, w, request{boundary.Release, v, 0, 0}, api.ErrUnpinned)
		refuses(t, outsideOf(w), request{boundary.Release, v, 0, 0}, api.ErrUnpinned)
	}
}

// 20.3: as many marks as there may be.
func TestMarkLimits(t *testing.T) {
	w := worldtest.Of(envtest.FullHouse())
	first, last := envtest.Word(api.Global, 63, envtest.MaxGen), envtest.Word(api.Weak, 0, envtest.MaxGen) // of mark 0, and without one
	refuses(t, w, request{boundary.GetCritical, first, 0, 0}, api.ErrFull)
	refuses(t, w, request{boundary.GetCritical, last, 0, 0}, api.ErrFull)
	refuses(t, w, request{boundary.Release, last, 0, 0}, api.ErrUnpinned)
	allows(t, w, request{boundary.Release, first, 0, 0})
	w.Marks[0].Count--
	allows(t, w, request{boundary.GetCritical, first, 0, 0})
	refuses(t, w, request{boundary.GetCritical, last, 0, 0}, api.ErrFull)
	w.Marks = w.Marks[1:]
	allows(t, w, request{boundary.GetCritical, last, 0, 0})
	allows(t, w, request{boundary.GetCritical, first, 0, 0})
	refuses(t, w, request{boundary.Release, first, 0, 0}, api.ErrUnpinned)
}
