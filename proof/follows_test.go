package proof_test

import (
	"testing"

	"tabellion/api"
	"tabellion/proof"
	"tabellion/smt"
)

func TestCheckAcceptsWhatMakeReturns(t *testing.T) {
	for _, l := range append(sets(), far(111, 4096), adjacent(112, 4096), partners(113, 100)) {
		for _, w := range []int{0, 1, 32} {
			if len(l) > 400 && w < 32 {
				continue
			}
			root, e := smt.Root(w, l)
			if e != api.OK {
				t.Fatalf("smt.Root of %d leaves: %d", len(l), e)
			}
			for i, p := range asked(l) {
				if len(l) > 400 && i%17 != 0 {
					continue
				}
				c, x, e := proof.Make(w, l, p)
				if e != api.OK {
					t.Fatalf("P6.5: Make of %d leaves is refused: %d", len(l), e)
				}
				if e := proof.Check(w, root, p, c, x); e != api.OK {
					t.Fatalf("P6.5: Check refuses what Make returned about %x, of %d leaves and width %d: %d", p, len(l), w, e)
				}
				b, e := proof.Put(x)
				if y, f := proof.Get(b); e != api.OK || f != api.OK || !sameProof(x, y) {
					t.Fatalf("P6.5: what Make returned is encoded with %d, and decoded with %d as %v", e, f, y)
				}
			}
		}
	}
}

// TestARootDeterminesTheClaim: of two trees, one with a leaf more or with another value, no proof of one is accepted by the root of the other, unless it tells the same.
func TestARootDeterminesTheClaim(t *testing.T) {
	l := far(114, 40)
	changed := append([]api.Leaf{{Path: l[0].Path, Value: l[1].Value}}, l[1:]...)
	for _, other := range [][]api.Leaf{l[1:], l[:39], changed, nil} {
		root, _ := smt.Root(32, other)
		for _, p := range asked(l) {
			c, x, _ := proof.Make(32, l, p)
			d, y, _ := proof.Make(32, other, p)
			if e := proof.Check(32, root, p, c, x); e == api.OK && c != d {
				t.Fatalf("P6.5: %v and %v about %x are both accepted", c, d, p)
			}
			if e := proof.Check(32, root, p, d, y); e != api.OK {
				t.Fatalf("P6.5: the true claim %v about %x is refused: %d", d, p, e)
			}
		}
	}
}

// TestTrueAndForgedClaimsClash: where a width is so short that a false claim is accepted beside the true one, Clash returns the collision.
func TestTrueAndForgedClaimsClash(t *testing.T) {
	l := far(115, 12)
	root, _ := smt.Root(1, l)
	for _, p := range asked(l)[:20] {
		c, x := mustMake(t, 1, l, p)
		found := false
		for i := range 20000 {
			y := proved{api.Claim{Present: true, Value: api.Digest{byte(i), byte(i >> 8), 7}}, api.Proof{Siblings: x.Siblings}}
			if proof.Check(1, root, p, y.c, y.x) == api.OK && y.c != c {
				mustClash(t, 1, root, p, proved{c, x}, y)
				found = true
				break
			}
		}
		if !found {
			t.Fatalf("P6.5: no false claim about %x was found", p)
		}
	}
}
