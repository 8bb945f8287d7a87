package nmach

import (
	"semispace/api"
	"semispace/ncode"
)

// maxArgs is the greatest number of arguments of a boundary call.
const maxArgs = 3

// processor executes an instruction, by which its frame and its system change.
type processor struct {
	Frame
	system
}

// do executes an instruction for which all registers and targets exist. Pc is
// already that of the next one.
func (p *processor) do(x ncode.Ins) Event {
	a := &p.Regs[x.A]
	switch x.Op {
	case ncode.Const:
		*a = x.K
	case ncode.Jump:
		p.Pc = int(x.K)
	case ncode.JumpIf:
		if *a != 0 {
			p.Pc = int(x.K)
		}
	case ncode.Load:
		*a = p.result(p.load(p.Regs[x.B]))
	case ncode.Store:
		p.note(p.store(*a, p.Regs[x.B]))
	case ncode.Call:
		*a = p.result(p.boundaryCall(x))
	case ncode.Upcall:
		if !p.pinned() {
			return Event{Kind: Calls, Ins: x}
		}
		*a = p.result(0, api.ErrCritical)
	case ncode.Out:
		return Event{Kind: Wrote, Value: *a}
	case ncode.Error:
		*a, p.Err = uint64(p.Err), api.OK
	case ncode.Return:
		if !p.pinned() {
			return Event{Kind: Returns, Value: *a}
		}
		p.note(api.ErrPinned)
	default:
		*a = computed(x.Op, p.Regs[x.B], p.Regs[x.C])
	}
	return Event{Kind: Next}
}

// computed returns what an instruction makes of B and C and nothing else.
func computed(op int, b, c uint64) uint64 {
	switch op {
	case ncode.Move:
		return b
	case ncode.Sub:
		c = -c
		fallthrough
	case ncode.Add:
		return b + c
	case ncode.Mul:
		return b * c
	case ncode.And:
		return b & c
	case ncode.Less:
		return truth(b < c)
	case ncode.Equal:
		return truth(b == c)
	}
	return 0
}

// truth returns 1 if ok is true, and 0 otherwise.
func truth(ok bool) uint64 {
	if ok {
		return 1
	}
	return 0
}

// boundaryCall does a boundary call with the registers from C on.
func (p *processor) boundaryCall(x ncode.Ins) (uint64, api.Errno) {
	var l [maxArgs]uint64
	copy(l[:], p.Regs[x.C:x.C+ncode.Args(x.B)])
	return p.call(x.B, l[0], l[1], l[2])
}

// note keeps an error for the program, if there is one.
func (p *processor) note(e api.Errno) {
	if e != api.OK {
		p.Err = e
	}
}

// result notes an error and returns the value that comes with it.
func (p *processor) result(v uint64, e api.Errno) uint64 {
	p.note(e)
	return v
}
