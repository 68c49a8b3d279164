package directory

import (
	"testing"

	"tabellion/api"
	"tabellion/path"
	"tabellion/smt"
)

// TestRootOfTwins: no two names with one path are known, so the leaves are made here.
func TestRootOfTwins(t *testing.T) {
	one := api.Leaf{Path: path.Of("one"), Value: api.Digest{1}}
	twin := api.Leaf{Path: one.Path, Value: api.Digest{2}}
	two := api.Leaf{Path: path.Of("two"), Value: api.Digest{1}}
	for _, l := range [][]api.Leaf{{one, twin}, {one, one}, {one, two, twin}, {two, one, twin}, {one, twin, two}} {
		if d := rootOf(l); d != (api.Digest{}) {
			t.Errorf("P10.3: the root of %v is %x; want zero", l, d)
		}
	}
	if d := rootOf([]api.Leaf{one}); d != smt.Leaf(32, one) {
		t.Errorf("P10.3: the root of a leaf is %x", d)
	}
}
