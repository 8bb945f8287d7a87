package env_test

import (
	"slices"
	"testing"

	"semispace/api"
	"semispace/env"
	"semispace/envtest"
	"semispace/heaptest"
)

// A copy is equal and shares no memory, valid or not.
func TestCopy(t *testing.T) {
	l := slices.Concat([]api.Env{{}}, envtest.Allowed(), envtest.Corrupt())
	for seed := range 100 {
		n := heaptest.Numbers(seed + 1)
		l = append(l, envtest.Irregular(&n))
	}
	for _, x := range l {
		given, unchanged := envtest.Guarded(x)
		out := env.Copy(given)
		if !envtest.Same(out, x) {
			t.Errorf("%s\nbecomes %s", show(x), show(out))
		}
		if !envtest.Overwrite(out) || !unchanged() {
			t.Errorf("the copy shares memory: %s", show(x))
		}
	}
}
