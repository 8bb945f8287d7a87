package rules_test

import (
	"slices"
	"testing"

	"semispace/heaptest"
	"semispace/rules"
	"semispace/worldtest"
)

// A copy is equal and shares no memory, valid or not.
func TestCopy(t *testing.T) {
	l := slices.Concat([]rules.World{{}}, worldtest.Allowed(), worldtest.Corrupt())
	for seed := range 100 {
		n := heaptest.Numbers(seed + 1)
		l = append(l, worldtest.Irregular(&n))
	}
	for _, w := range l {
		given, unchanged := worldtest.Guarded(w)
		out := rules.Copy(given)
		if !worldtest.Same(out, w) {
			t.Errorf("%s\nbecomes %s", show(w), show(out))
		}
		if !worldtest.Overwrite(out) || !unchanged() {
			t.Errorf("the copy shares memory: %s", show(w))
		}
	}
}
