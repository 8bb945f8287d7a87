package rules_test

import (
	"fmt"
	"testing"

	"semispace/api"
	"semispace/boundary"
	"semispace/envtest"
	"semispace/rules"
	"semispace/worldtest"
)

const huge = 1<<64 - 1

// The handles of worldtest.Ordinary, by the things that they refer to.
var (
	local6  = envtest.Word(api.Local, 0, 1)
	again6  = envtest.Word(api.Local, 4, 7)
	local12 = envtest.Word(api.Local, 2, 3)
	local7  = envtest.Word(api.Local, 3, 6)
	global9 = envtest.Word(api.Global, 1, 1)
	global4 = envtest.Word(api.Global, 3, 7)
	weak5   = envtest.Word(api.Weak, 0, 1)
	weak1   = envtest.Word(api.Weak, 1, 2)
	weak3   = envtest.Word(api.Weak, 4, envtest.MaxGen)
	weak7   = envtest.Word(api.Weak, 5, 1)
	cleared = envtest.Word(api.Weak, 3, 3)
)

// The words of handles that cannot be used any more.
var (
	stale   = envtest.Word(api.Local, 3, 4)
	deleted = envtest.Word(api.Global, 0, 4)
)

// request is a call with its arguments.
type request struct {
	op      int
	a, b, c uint64
}

// show is a short form for messages.
func show(w rules.World) string { return fmt.Sprintf("%.1200v", fmt.Sprint(w)) }

// guard returns a world and a function that checks that it has not been changed.
func guard(t *testing.T, w rules.World) (rules.World, func()) {
	given, unchanged := worldtest.Guarded(w)
	return given, func() {
		t.Helper()
		if !unchanged() {
			t.Fatalf("the world has been changed: %s", show(w))
		}
	}
}

// verdict is rules.Verdict of a world that must stay as it is.
func verdict(t *testing.T, w rules.World, r request, failed bool) api.Errno {
	t.Helper()
	given, check := guard(t, w)
	e := rules.Verdict(given, r.op, r.a, r.b, r.c, failed)
	check()
	return e
}

// refuses checks that a call has an error, whether the real system has failed
// or not.
func refuses(t *testing.T, w rules.World, r request, want api.Errno) {
	t.Helper()
	for _, failed := range []bool{false, true} {
		if e := verdict(t, w, r, failed); e != want {
			t.Errorf("%v, %v: error %d, want %d, with %s", r, failed, e, want, show(w))
		}
	}
}

// failure is the error of a call if the real system has failed.
func failure(op int) api.Errno {
	switch op {
	case boundary.NewRecord, boundary.NewRefs, boundary.NewWords:
		return api.ErrMemory
	case boundary.GetCritical:
		return api.ErrFull
	}
	return api.OK
}

// allows checks that a call has no error, unless the real system has failed.
func allows(t *testing.T, w rules.World, r request) {
	t.Helper()
	if e := verdict(t, w, r, false); e != api.OK {
		t.Errorf("%v: error %d, with %s", r, e, show(w))
	}
	if e, want := verdict(t, w, r, true), failure(r.op); e != want {
		t.Errorf("%v, failed: error %d, want %d, with %s", r, e, want, show(w))
	}
}

// roomy is worldtest.Ordinary with room for more handles in its last scope.
func roomy() rules.World {
	return worldtest.Changed(worldtest.Ordinary(), func(w *rules.World) { w.Locals.Scopes[2].Cap = 64 })
}

// outside is worldtest.Ordinary without local handles and scopes.
func outside() rules.World {
	return worldtest.Changed(worldtest.Ordinary(), func(w *rules.World) { w.Locals.Slots, w.Locals.Scopes = nil, nil })
}

// issuedBut lets a world have issued all local handles but n.
func issuedBut(n int) func(w *rules.World) {
	return func(w *rules.World) {
		w.Locals.Issued = append(w.Locals.Issued, make([]int, 4096-n-len(w.Locals.Issued))...)
	}
}

// issuedAll is roomy after as many local handles as there may be.
func issuedAll() rules.World { return worldtest.Changed(roomy(), issuedBut(0)) }

// stuck is worldtest.Ordinary, but no other handle can be made: its scope and
// its tables are full, and as many local handles as there may be have been
// issued.
func stuck() rules.World {
	return worldtest.Changed(worldtest.Changed(worldtest.Ordinary(), issuedBut(0)), func(w *rules.World) {
		w.Globals.Entries[0], w.Weaks.Entries[2] = envtest.Live(5, 3), envtest.Live(2, 3)
		for len(w.Globals.Entries) < 64 {
			w.Globals.Entries = append(w.Globals.Entries, envtest.Dead(envtest.MaxGen))
		}
		for len(w.Weaks.Entries) < 64 {
			w.Weaks.Entries = append(w.Weaks.Entries, envtest.Dead(envtest.MaxGen))
		}
	})
}

// frame is a world with the scope of a native frame, with room for n handles.
func frame(c api.Conf, n int) rules.World {
	return rules.World{Conf: c, Locals: api.Locals{Scopes: []api.Scope{{Cap: n, Base: true}}}}
}
