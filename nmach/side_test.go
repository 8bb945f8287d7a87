package nmach_test

import (
	"fmt"

	"semispace/api"
	"semispace/boundary"
	"semispace/env"
	"semispace/envtest"
	"semispace/ncode"
	"semispace/nmach"
	"semispace/pin"
	"semispace/rules"
	"semispace/shadow"
	"semispace/worldtest"
)

// result is all that a step returns. Model returns no fact.
type result[T any] struct {
	x    T
	f    nmach.Frame
	v    nmach.Event
	fact shadow.Fact
	e    api.Errno
}

// side is one of the two systems: the step in it, what lower layers do in it,
// and how its memory is looked at.
type side[T any] struct {
	name      string
	step      func(x T, c ncode.Code, f nmach.Frame) result[T]
	valid     func(x T) bool
	pins      func(x T) int
	load      func(x T, addr uint64) (uint64, api.Errno)
	store     func(x T, addr, v uint64) (T, api.Errno)
	call      func(x T, op int, a, b, c uint64) (T, uint64, shadow.Fact, api.Errno)
	same      func(x, y T) bool
	copied    func(x T) T
	guarded   func(x T) (T, func() bool)
	overwrite func(x T) bool
}

// show is a short form for messages.
func show[T any](x T) string { return fmt.Sprintf("%.1500v", fmt.Sprint(x)) }

// real is the side of Step.
func real() side[api.Env] {
	return side[api.Env]{
		name: "Step",
		step: func(x api.Env, c ncode.Code, f nmach.Frame) (r result[api.Env]) {
			r.x, r.f, r.v, r.fact, r.e = nmach.Step(x, c, f)
			return r
		},
		valid: env.Valid,
		pins:  func(x api.Env) int { return len(x.Pins) },
		load:  func(x api.Env, addr uint64) (uint64, api.Errno) { return pin.Load(x.Heap, x.Pins, addr) },
		store: func(x api.Env, addr, v uint64) (api.Env, api.Errno) {
			h, e := pin.Store(x.Heap, x.Pins, addr, v)
			x.Heap = h
			return x, e
		},
		call: func(x api.Env, op int, a, b, c uint64) (api.Env, uint64, shadow.Fact, api.Errno) {
			y, v, e := boundary.Call(x, op, a, b, c)
			return y, v, shadow.Witness(x, y, op, v, e), e
		},
		same: envtest.Same, copied: envtest.Copied, guarded: envtest.Guarded, overwrite: envtest.Overwrite,
	}
}

// modelled is the side of Model with a fact.
func modelled(fact shadow.Fact) side[rules.World] {
	return side[rules.World]{
		name: "Model",
		step: func(w rules.World, c ncode.Code, f nmach.Frame) (r result[rules.World]) {
			r.x, r.f, r.v, r.e = nmach.Model(w, c, f, fact)
			return r
		},
		valid: rules.Valid,
		pins:  func(w rules.World) int { return len(w.Marks) },
		load:  shadow.Load,
		store: shadow.Store,
		call: func(w rules.World, op int, a, b, c uint64) (rules.World, uint64, shadow.Fact, api.Errno) {
			y, v, e := shadow.Call(w, op, a, b, c, fact)
			return y, v, shadow.Fact{}, e
		},
		same: worldtest.Same, copied: worldtest.Copied, guarded: worldtest.Guarded, overwrite: worldtest.Overwrite,
	}
}
