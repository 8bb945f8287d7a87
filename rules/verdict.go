package rules

import (
	"math"

	"semispace/alloc"
	"semispace/api"
	"semispace/boundary"
	"semispace/handle"
	"semispace/header"
	"semispace/scope"
	"semispace/slots"
)

// Verdict returns the error of a call.
func Verdict(w World, op int, a, b, c uint64, failed bool) api.Errno {
	if !Valid(w) {
		return api.ErrCorrupt
	}
	r, ok := table()[op]
	if !ok {
		return api.ErrArg
	}
	q := query{w: w, a: a, b: b, c: c}
	for _, examine := range []check{r.subject, r.detail, r.effect} {
		if examine == nil {
			continue
		}
		if e := examine(&q); e != api.OK {
			return e
		}
	}
	if failed {
		return r.failed
	}
	return api.OK
}

// query is a call whose error is asked for, in a valid world, with what has been
// found out about it.
type query struct {
	w       World
	a, b, c uint64
	id      uint64 // what the call is about, or what its result refers to
}

// check returns an error that a call may have.
type check func(q *query) api.Errno

// rule is a row of the decision table: what is examined, in this order. A check
// that is nil finds nothing.
type rule struct {
	subject check     // what the call is about, or whether it may be made at all
	detail  check     // whether what else it is given suits
	effect  check     // whether what it does is possible
	failed  api.Errno // the error if the real system has failed
}

// table returns the rules of all calls.
func table() map[int]rule {
	return map[int]rule{
		boundary.NewRecord:    {subject: uncritical, detail: asks(api.Record), effect: local, failed: api.ErrMemory},
		boundary.NewRefs:      {subject: uncritical, detail: asks(api.Refs), effect: local, failed: api.ErrMemory},
		boundary.NewWords:     {subject: uncritical, detail: asks(api.Words), effect: local, failed: api.ErrMemory},
		boundary.Length:       {subject: object},
		boundary.Kind:         {subject: object},
		boundary.GetWord:      {subject: object, detail: word},
		boundary.SetWord:      {subject: object, detail: word},
		boundary.GetRef:       {subject: object, detail: pointer, effect: local},
		boundary.SetRef:       {subject: object, detail: pointer, effect: value},
		boundary.Same:         {subject: resolved, detail: other},
		boundary.NewLocal:     {subject: resolved, effect: local},
		boundary.DeleteLocal:  {subject: resolved, detail: tagged(api.Local)},
		boundary.NewGlobal:    {subject: object, effect: global},
		boundary.DeleteGlobal: {subject: resolved, detail: tagged(api.Global)},
		boundary.NewWeak:      {subject: object, effect: weak},
		boundary.DeleteWeak:   {subject: resolved, detail: tagged(api.Weak)},
		boundary.PushScope:    {detail: limit, effect: opened},
		boundary.PopScope:     {subject: resolved, detail: closed, effect: local},
		boundary.GetCritical:  {subject: object, effect: pinned, failed: api.ErrFull},
		boundary.Release:      {subject: object, effect: released},
	}
}

// uncritical returns ErrCritical if there are marks.
func uncritical(q *query) api.Errno {
	if len(q.w.Marks) > 0 {
		return api.ErrCritical
	}
	return api.OK
}

// asks checks that a new thing of this kind can be asked for.
func asks(kind int) check {
	return func(q *query) api.Errno {
		pointers := uint64(0)
		if kind == api.Record {
			pointers = q.b
		}
		// In a header, numbers that are too great would become other ones.
		if q.a > math.MaxInt32 || pointers > math.MaxUint32 {
			return api.ErrArg
		}
		if !alloc.Asks(q.w.Conf, api.Header{Kind: kind, Length: int(q.a), Map: uint32(pointers)}) {
			return api.ErrArg
		}
		q.id = uint64(len(q.w.Things)) + 1 // it will be behind all others
		return api.OK
	}
}

// resolved finds what a refers to.
func resolved(q *query) (e api.Errno) {
	q.id, e = q.w.resolve(q.a)
	return e
}

// object is resolved for a call that needs an object.
func object(q *query) api.Errno {
	e := resolved(q)
	if e == api.OK && q.id == 0 {
		return api.ErrNull
	}
	return e
}

// tagged checks that the word a, which has been resolved, is a handle with this
// tag. Null can be resolved, but is no handle.
func tagged(tag int) check {
	return func(q *query) api.Errno {
		h, e := handle.Decode(q.a)
		if e == api.OK && h.Tag != tag {
			return api.ErrKind
		}
		return e
	}
}

// other checks that b can be resolved.
func other(q *query) api.Errno {
	_, e := q.w.resolve(q.b)
	return e
}

// value checks that c can be resolved.
func value(q *query) api.Errno {
	_, e := q.w.resolve(q.c)
	return e
}

// hasField checks that the object has a field b that is a pointer, or that is
// none.
func hasField(q *query, isPointer bool) api.Errno {
	y := q.w.Things[q.id-1]
	if q.b >= uint64(len(y.Fields)) {
		return api.ErrRange
	}
	if header.Pointer(y.Header, int(q.b)) != isPointer {
		return api.ErrKind
	}
	return api.OK
}

// word checks that field b can be read or written as a word.
func word(q *query) api.Errno { return hasField(q, false) }

// pointer checks that field b can be read or written as a reference, and finds
// what it refers to.
func pointer(q *query) api.Errno {
	e := hasField(q, true)
	if e == api.OK {
		q.id = q.w.Things[q.id-1].Fields[q.b]
	}
	return e
}

// local checks that a new local handle can be made. Null needs none.
func local(q *query) api.Errno {
	if q.id == 0 {
		return api.OK
	}
	_, _, _, e := scope.New(q.w.Locals, q.id)
	return e
}

// global checks that a new global handle can be made.
func global(q *query) api.Errno {
	_, _, _, e := slots.New(q.w.Globals, q.id)
	return e
}

// weak checks that a new weak handle can be made.
func weak(q *query) api.Errno {
	_, _, _, e := slots.New(q.w.Weaks, q.id)
	return e
}

// limit checks how many local handles a new scope is to have room for.
func limit(q *query) api.Errno {
	if q.a > api.MaxCap { // it may be too great for an int
		return api.ErrArg
	}
	return api.OK
}

// opened checks that a scope can be opened.
func opened(q *query) api.Errno {
	_, e := scope.Push(q.w.Locals, int(q.a))
	return e
}

// closed closes the last scope, as the result is made in the one around it.
func closed(q *query) (e api.Errno) {
	q.w.Locals, e = scope.Pop(q.w.Locals)
	return e
}

// pinned checks that the object can be pinned once more, wherever it is.
func pinned(q *query) api.Errno {
	k := q.w.mark(q.id)
	if k < 0 && len(q.w.Marks) == api.MaxPins || k >= 0 && q.w.Marks[k].Count == api.MaxCount {
		return api.ErrFull
	}
	return api.OK
}

// released checks that the object is pinned.
func released(q *query) api.Errno {
	if q.w.mark(q.id) < 0 {
		return api.ErrUnpinned
	}
	return api.OK
}
