package proof_test

import (
	"slices"
	"testing"

	"tabellion/api"
	"tabellion/smt"
)

// lengths are numbers of siblings: the edges, and some between.
var lengths = []int{0, 1, 2, 7, 8, 9, 31, 32, 100, 254, 255, 256}

// proved is a claim with a proof.
type proved struct {
	c api.Claim
	x api.Proof
}

// wellFormed returns claims about p with well-formed proofs of n siblings.
func wellFormed(p api.Digest, n int) []proved {
	s := digests(uint32(n)+1, n)
	list := []proved{
		{api.Claim{}, api.Proof{Siblings: s}},
		{api.Claim{Present: true}, api.Proof{Siblings: s}},
		{api.Claim{Present: true, Value: dice(3)()}, api.Proof{Siblings: s}},
	}
	for _, bit := range append(slices.Clone(edgeBits), n, n+1) { // the other path has bit many bits in common
		if bit >= n && bit < 256 {
			other := flipped(p, bit)
			list = append(list,
				proved{api.Claim{}, api.Proof{Siblings: s, Other: true, OtherPath: other}},
				proved{api.Claim{}, api.Proof{Siblings: s, Other: true, OtherPath: other, OtherValue: dice(4)()}})
		}
	}
	return list
}

// malformed returns claims about p with proofs, of about n siblings, that have no proof's form.
func malformed(p api.Digest, n int) []proved {
	s, v := digests(uint32(n)+1, n), dice(5)()
	there := api.Claim{Present: true, Value: v}
	far, last := flipped(p, 0), flipped(p, 255)
	list := []proved{
		{api.Claim{Value: v}, api.Proof{Siblings: s}}, // no claim
		{api.Claim{Value: api.Digest{31: 1}}, api.Proof{Siblings: s, Other: true, OtherPath: last}},
		{there, api.Proof{Siblings: s, Other: true, OtherPath: last, OtherValue: v}},
		{there, api.Proof{Siblings: s, Other: true, OtherPath: p, OtherValue: v}},
		{there, api.Proof{Siblings: s, Other: true}},
		{there, api.Proof{Siblings: s, OtherPath: far}},
		{there, api.Proof{Siblings: s, OtherValue: v}},
		{api.Claim{}, api.Proof{Siblings: s, OtherPath: api.Digest{31: 1}}},
		{api.Claim{}, api.Proof{Siblings: s, OtherValue: api.Digest{31: 1}}},
		{api.Claim{}, api.Proof{Siblings: s, OtherPath: last, OtherValue: v}},
		{api.Claim{}, api.Proof{Siblings: s, Other: true, OtherPath: p}}, // the path itself
		{api.Claim{}, api.Proof{Siblings: s, Other: true, OtherPath: p, OtherValue: v}},
	}
	for _, bit := range append(slices.Clone(edgeBits), n-1, n-2) { // parts too early
		if bit >= 0 && bit < n {
			list = append(list, proved{api.Claim{}, api.Proof{Siblings: s, Other: true, OtherPath: flipped(p, bit), OtherValue: v}})
		}
	}
	for _, more := range []int{257, 258, 300, 4097} {
		s := digests(6, more)
		list = append(list, proved{there, api.Proof{Siblings: s}}, proved{api.Claim{}, api.Proof{Siblings: s}}, proved{api.Claim{}, api.Proof{Siblings: s, Other: true, OtherPath: last}})
	}
	return list
}

// boldRoot is the root of a proof of whatever form, as far as it can have one.
func boldRoot(w int, p api.Digest, y proved) api.Digest {
	if len(y.x.Siblings) > 256 {
		return api.Digest{}
	}
	return rootOf(w, p, y.c, y.x)
}

func TestCheckOfTheExamples(t *testing.T) {
	p := dice(1)()
	mustCheck(t, 32, smt.Empty(32), p, api.Claim{}, api.Proof{}, api.OK)
	mustCheck(t, 32, smt.Empty(32), p, api.Claim{Present: true}, api.Proof{}, api.ErrProofRoot)
	mustCheck(t, 0, api.Digest{}, p, api.Claim{}, api.Proof{}, api.OK)
	mustCheck(t, 0, api.Digest{}, p, api.Claim{Present: true}, api.Proof{}, api.OK)
}

func TestCheckAcceptsByTheRoot(t *testing.T) {
	for _, p := range []api.Digest{{}, dice(61)(), flipped(api.Digest{}, 255)} {
		for _, n := range lengths {
			for i, y := range wellFormed(p, n) {
				for _, w := range edgeWidths {
					root := rootOf(w, p, y.c, y.x)
					mustCheck(t, w, root, p, y.c, y.x, api.OK)
					bit := edgeBits[(i+n)%len(edgeBits)]
					mustCheck(t, w, flipped(root, bit), p, y.c, y.x, api.ErrProofRoot)
				}
			}
		}
	}
}

func TestCheckOfARootTurned(t *testing.T) {
	l := far(62, 20)
	for _, p := range []api.Digest{l[0].Path, flipped(l[1].Path, 99), flipped(l[2].Path, 0)} {
		for _, w := range edgeWidths {
			c, x := mustMake(t, w, l, p)
			root := digestAt(w, l, 0)
			mustCheck(t, w, root, p, c, x, api.OK)
			for bit := range 256 {
				mustCheck(t, w, flipped(root, bit), p, c, x, api.ErrProofRoot)
			}
		}
	}
}

func TestCheckIsRefusedForItsForm(t *testing.T) {
	for _, p := range []api.Digest{dice(63)(), flipped(api.Digest{}, 1)} {
		for _, n := range lengths {
			for _, y := range malformed(p, n) {
				for _, w := range []int{0, 1, 32} {
					mustCheck(t, w, boldRoot(w, p, y), p, y.c, y.x, api.ErrProofForm)
					mustCheck(t, w, dice(7)(), p, y.c, y.x, api.ErrProofForm)
				}
			}
		}
	}
}

func TestCheckOfWidths(t *testing.T) {
	p := dice(64)()
	good, bad := wellFormed(p, 3), malformed(p, 3)
	for w := range 33 {
		for _, y := range good {
			mustCheck(t, w, rootOf(w, p, y.c, y.x), p, y.c, y.x, api.OK)
		}
	}
	for _, w := range refusedWidths {
		for _, y := range append(good, bad...) {
			mustCheck(t, w, boldRoot(32, p, y), p, y.c, y.x, api.ErrArg)
			mustCheck(t, w, api.Digest{}, p, y.c, y.x, api.ErrArg)
		}
	}
}

func TestCheckOfAProofTurned(t *testing.T) {
	p := dice(65)()
	for _, n := range []int{0, 1, 9, 255, 256} {
		for _, y := range wellFormed(p, n) {
			root := rootOf(32, p, y.c, y.x)
			for i := range y.x.Siblings {
				x := y.x
				x.Siblings = slices.Clone(x.Siblings)
				x.Siblings[i] = flipped(x.Siblings[i], edgeBits[i%len(edgeBits)])
				mustCheck(t, 32, root, p, y.c, x, api.ErrProofRoot)
			}
			for _, bit := range edgeBits {
				c, x := y.c, y.x
				if c.Present {
					c.Value = flipped(c.Value, bit)
				} else if x.Other {
					x.OtherValue = flipped(x.OtherValue, bit)
				} else {
					continue
				}
				mustCheck(t, 32, root, p, c, x, api.ErrProofRoot)
			}
		}
	}
}

// TestCheckOfAPathTurned: a proof that nothing stands somewhere is one about all paths that begin in the same way.
func TestCheckOfAPathTurned(t *testing.T) {
	p := dice(66)()
	for _, n := range []int{0, 1, 8, 100, 255, 256} {
		x := api.Proof{Siblings: digests(67, n)}
		there := api.Claim{Present: true, Value: dice(68)()}
		nothing, leaf := rootOf(32, p, api.Claim{}, x), rootOf(32, p, there, x)
		for bit := range 256 {
			want := api.OK
			if bit < n {
				want = api.ErrProofRoot
			}
			mustCheck(t, 32, nothing, flipped(p, bit), api.Claim{}, x, want)
			mustCheck(t, 32, leaf, flipped(p, bit), there, x, api.ErrProofRoot)
		}
	}
}

func TestCheckOfOtherClaims(t *testing.T) {
	l := far(69, 20)
	root := digestAt(32, l, 0)
	c, x := mustMake(t, 32, l, l[3].Path)
	mustCheck(t, 32, root, l[3].Path, api.Claim{}, x, api.ErrProofRoot)
	mustCheck(t, 32, root, l[3].Path, api.Claim{Present: true}, x, api.ErrProofRoot)
	mustCheck(t, 32, root, l[4].Path, c, x, api.ErrProofRoot)
	x.Siblings = x.Siblings[:len(x.Siblings)-1]
	mustCheck(t, 32, root, l[3].Path, c, x, api.ErrProofRoot)
	away := flipped(l[5].Path, 255)
	c, x = mustMake(t, 32, l, away)
	mustCheck(t, 32, root, away, api.Claim{Present: true, Value: l[5].Value}, api.Proof{Siblings: x.Siblings}, api.ErrProofRoot)
	mustCheck(t, 32, root, away, c, api.Proof{Siblings: x.Siblings}, api.ErrProofRoot)
	x.Siblings = append(x.Siblings, smt.Empty(32))
	mustCheck(t, 32, root, away, c, x, api.ErrProofRoot)
}

func TestCheckLeavesTheProof(t *testing.T) {
	p := dice(70)()
	whole := digests(71, 40)
	old := slices.Clone(whole)
	c, x := api.Claim{Present: true, Value: p}, api.Proof{Siblings: whole[:20]}
	root := rootOf(32, p, c, x)
	for range 3 {
		mustCheck(t, 32, root, p, c, x, api.OK)
		mustCheck(t, 32, p, p, c, x, api.ErrProofRoot)
	}
	if !slices.Equal(whole, old) {
		t.Fatalf("R2: Check changed what was handed in")
	}
}
