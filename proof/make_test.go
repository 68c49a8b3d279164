package proof_test

import (
	"math"
	"slices"
	"testing"

	"tabellion/api"
	"tabellion/proof"
	"tabellion/smt"
)

// mustRefuse fails if Make isn't refused with want, or answers anything beside it.
func mustRefuse(t *testing.T, w int, l []api.Leaf, p api.Digest, want api.Errno) {
	t.Helper()
	c, x, e := proof.Make(w, l, p)
	if c != (api.Claim{}) || !sameProof(x, api.Proof{}) || e != want {
		t.Fatalf("P6.1: Make(%d, %d leaves, %x) is %v, %v, %d; want zeros, %d", w, len(l), p, c, x, e, want)
	}
	if _, f := smt.Root(w, l); f != e {
		t.Fatalf("P6.1: Make is refused with %d, and smt.Root with %d", e, f)
	}
}

func TestMakeOfTheExamples(t *testing.T) {
	a, b := api.Leaf{Value: api.Digest{5}}, api.Leaf{Path: api.Digest{128}, Value: api.Digest{6}}
	for _, x := range []struct {
		l []api.Leaf
		p api.Digest
		c api.Claim
		y api.Proof
	}{
		{nil, api.Digest{9}, api.Claim{}, api.Proof{}},
		{[]api.Leaf{a, b}, a.Path, api.Claim{Present: true, Value: a.Value}, api.Proof{Siblings: []api.Digest{smt.Leaf(32, b)}}},
		{[]api.Leaf{a, b}, b.Path, api.Claim{Present: true, Value: b.Value}, api.Proof{Siblings: []api.Digest{smt.Leaf(32, a)}}},
		{[]api.Leaf{a}, b.Path, api.Claim{}, api.Proof{Other: true, OtherPath: a.Path, OtherValue: a.Value}},
		{[]api.Leaf{a}, a.Path, api.Claim{Present: true, Value: a.Value}, api.Proof{}},
	} {
		c, y, e := proof.Make(32, x.l, x.p)
		if c != x.c || !sameProof(y, x.y) || e != api.OK {
			t.Fatalf("P6.1: Make of %d leaves about %x is %v, %v, %d; want %v, %v, OK", len(x.l), x.p, c, y, e, x.c, x.y)
		}
	}
}

func TestMakeOfManySets(t *testing.T) {
	for _, l := range sets() {
		for _, w := range edgeWidths {
			for i, p := range asked(l) {
				if i%6 == w%6 || w == 32 || len(l) < 4 {
					mustMake(t, w, l, p)
				}
			}
		}
	}
}

func TestMakeOfAllWidths(t *testing.T) {
	l := far(21, 9)
	for w := range 33 {
		mustMake(t, w, l, l[4].Path)
		mustMake(t, w, l, flipped(l[4].Path, 200))
	}
}

// TestMakeOfAllDepths asks for proofs with 1 to 256 siblings.
func TestMakeOfAllDepths(t *testing.T) {
	p := dice(22)()
	for i := range 256 {
		l := []api.Leaf{{Path: flipped(p, i), Value: api.Digest{1}}, {Path: p, Value: api.Digest{2}}}
		if c, x := mustMake(t, 32, l, p); !c.Present || len(x.Siblings) != i+1 || x.Other {
			t.Fatalf("P6.1: of two leaves that part at bit %d, one has the claim %v and %d siblings", i, c, len(x.Siblings))
		}
	}
}

// TestMakeBesideTwoLeaves asks about paths that part from the second of two leaves at each bit but the one at which the first does.
func TestMakeBesideTwoLeaves(t *testing.T) {
	p := dice(24)()
	for _, i := range []int{0, 1, 100, 254, 255} {
		l := []api.Leaf{{Path: flipped(p, i), Value: api.Digest{1}}, {Path: p, Value: api.Digest{2}}}
		for j := range 256 {
			if j == i {
				continue
			}
			c, x := mustMake(t, 1, l, flipped(p, j))
			if want := min(i, j) + 1; c.Present || len(x.Siblings) != want || x.Other != (j > i) {
				t.Fatalf("P6.1: beside two leaves that part at bit %d, a path that parts at bit %d has %d siblings, and another leaf %t", i, j, len(x.Siblings), x.Other)
			}
		}
	}
}

func TestMakeWhereNothingStands(t *testing.T) {
	p := dice(23)()
	l := []api.Leaf{{Path: flipped(p, 3), Value: api.Digest{1}}, {Path: flipped(flipped(p, 3), 255), Value: api.Digest{2}}}
	c, x := mustMake(t, 32, l, p)
	if c.Present || x.Other || len(x.Siblings) != 4 {
		t.Fatalf("P6.1: %v, %v; want nothing beside 4 siblings", c, x)
	}
	for i, s := range x.Siblings[:3] {
		if s != smt.Empty(32) {
			t.Fatalf("P6.1: sibling %d, of no leaves, is %x", i, s)
		}
	}
	if x.Siblings[3] != digestAt(32, l, 4) {
		t.Fatalf("P6.1: sibling 3, of both leaves, is %x", x.Siblings[3])
	}
}

func TestMakeOfTheMostLeaves(t *testing.T) {
	for _, l := range [][]api.Leaf{far(31, 4097), adjacent(32, 4097), append(partners(33, 4096), far(34, 1)...)} {
		twice := slices.Clone(l)
		twice[4000].Path = twice[17].Path
		for _, p := range []api.Digest{l[0].Path, l[4096].Path, flipped(l[5].Path, 255), {}} {
			mustRefuse(t, 32, l, p, api.ErrLimit)
			mustRefuse(t, 32, twice, p, api.ErrLimit)
			mustRefuse(t, 32, twice[:4096], p, api.ErrSmtTwice)
			mustRefuse(t, 33, twice, p, api.ErrArg)
		}
		mustMake(t, 32, l[:4096], l[7].Path)
		mustMake(t, 32, l[:4096], flipped(l[8].Path, 250))
	}
}

func TestMakeIsRefused(t *testing.T) {
	one := api.Leaf{Path: dice(41)(), Value: api.Digest{1}}
	other := api.Leaf{Path: one.Path, Value: api.Digest{2}}
	lists := [][]api.Leaf{{one, one}, {one, other}, append(far(42, 50), one, other), append(append([]api.Leaf{one}, far(43, 50)...), other)}
	for _, l := range lists {
		for _, p := range []api.Digest{one.Path, flipped(one.Path, 0), flipped(one.Path, 255)} {
			for _, w := range edgeWidths {
				mustRefuse(t, w, l, p, api.ErrSmtTwice)
			}
			for _, w := range refusedWidths {
				mustRefuse(t, w, l, p, api.ErrArg)
				mustRefuse(t, w, l[:1], p, api.ErrArg)
				mustRefuse(t, w, nil, p, api.ErrArg)
			}
		}
	}
	mustRefuse(t, math.MinInt, make([]api.Leaf, 5000), api.Digest{}, api.ErrArg)
	mustRefuse(t, 0, make([]api.Leaf, 5000), api.Digest{}, api.ErrLimit)
}

func TestMakeKeepsNothing(t *testing.T) {
	whole := far(51, 30)
	l := whole[:20] // behind it lie other leaves
	old := slices.Clone(whole)
	p, away := l[3].Path, flipped(l[3].Path, 30)
	c, x := mustMake(t, 32, l, p)
	d, y := mustMake(t, 32, l, away)
	if !slices.Equal(whole, old) {
		t.Fatalf("R2: Make changed what was handed in")
	}
	clear(whole)
	want, first := made(32, old[:20], p)
	absent, second := made(32, old[:20], away)
	if c != want || !sameProof(x, first) || d != absent || !sameProof(y, second) {
		t.Fatalf("R2: what Make returned changes with what was handed in")
	}
	x.Siblings[0][0] ^= 255
	if again, z, _ := proof.Make(32, old[:20], p); again != want || !sameProof(z, first) || !sameProof(y, second) {
		t.Fatalf("R2: results of Make share memory")
	}
}

func TestMakeInAnyOrder(t *testing.T) {
	for _, l := range sets() {
		back := slices.Clone(l)
		slices.Reverse(back)
		for _, p := range asked(l) {
			c, x, e := proof.Make(32, l, p)
			d, y, f := proof.Make(32, back, p)
			if c != d || !sameProof(x, y) || e != api.OK || f != api.OK {
				t.Fatalf("P6.1: Make of %d leaves is %v, %v, %d; in the opposite order %v, %v, %d", len(l), c, x, e, d, y, f)
			}
		}
	}
}
