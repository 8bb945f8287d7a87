package envtest

import (
	"strconv"

	"semispace/api"
)

// Counts says how often things have happened.
type Counts map[string]int

// Call counts a boundary call by its error, and once more by its number if it
// has none.
func (c Counts) Call(op int, e api.Errno) {
	c[named("error", int(e))]++
	if e == api.OK {
		c[named("call", op)]++
	}
}

// Seldom returns those of these things that have happened fewer than n times.
func (c Counts) Seldom(n int, things ...string) []string {
	var l []string
	for _, what := range things {
		if c[what] < n {
			l = append(l, what)
		}
	}
	return l
}

// named is the name of what Call counts.
func named(what string, n int) string { return what + " " + strconv.Itoa(n) }

// Calls are the names of calls from a first one on.
func Calls(first int) []string {
	var l []string
	for op := first; op <= 20; op++ {
		l = append(l, named("call", op))
	}
	return l
}

// Errors are the names of the errors that irregular calls have in valid
// environments.
func Errors() []string {
	var l []string
	for _, e := range []api.Errno{
		api.OK, api.ErrArg, api.ErrRange, api.ErrMemory, api.ErrKind, api.ErrNull, api.ErrForged, api.ErrStale,
		api.ErrDeleted, api.ErrScope, api.ErrCapacity, api.ErrFull, api.ErrUnpinned, api.ErrCritical,
	} {
		l = append(l, named("error", int(e)))
	}
	return l
}
