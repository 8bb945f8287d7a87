package nmach

import (
	"semispace/api"
	"semispace/boundary"
	"semispace/env"
	"semispace/pin"
	"semispace/rules"
	"semispace/shadow"
)

// system is what native code reads and changes besides its registers. Together
// with an error, nothing changes and a value is 0.
type system interface {
	valid() bool
	pinned() bool // whether any object is
	load(addr uint64) (uint64, api.Errno)
	store(addr, v uint64) api.Errno
	call(op int, a, b, c uint64) (uint64, api.Errno)
}

// environment is the real system, with the fact of the last call.
type environment struct {
	x    api.Env
	fact shadow.Fact
}

func (s *environment) valid() bool { return env.Valid(s.x) }

func (s *environment) pinned() bool { return len(s.x.Pins) > 0 }

func (s *environment) load(addr uint64) (uint64, api.Errno) {
	return pin.Load(s.x.Heap, s.x.Pins, addr)
}

func (s *environment) store(addr, v uint64) api.Errno {
	h, e := pin.Store(s.x.Heap, s.x.Pins, addr, v)
	if e == api.OK {
		s.x.Heap = h
	}
	return e
}

func (s *environment) call(op int, a, b, c uint64) (uint64, api.Errno) {
	x, v, e := boundary.Call(s.x, op, a, b, c)
	s.fact = shadow.Witness(s.x, x, op, v, e)
	if e == api.OK {
		s.x = x
	}
	return v, e
}

// world is a model, with the fact of its next call.
type world struct {
	w    rules.World
	fact shadow.Fact
}

func (s *world) valid() bool { return rules.Valid(s.w) }

func (s *world) pinned() bool { return len(s.w.Marks) > 0 }

func (s *world) load(addr uint64) (uint64, api.Errno) { return shadow.Load(s.w, addr) }

func (s *world) store(addr, v uint64) api.Errno {
	w, e := shadow.Store(s.w, addr, v)
	if e == api.OK {
		s.w = w
	}
	return e
}

func (s *world) call(op int, a, b, c uint64) (uint64, api.Errno) {
	w, v, e := shadow.Call(s.w, op, a, b, c, s.fact)
	if e == api.OK {
		s.w = w
	}
	return v, e
}
