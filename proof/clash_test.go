package proof_test

import (
	"bytes"
	"slices"
	"testing"

	"tabellion/api"
	"tabellion/proof"
)

// mustClash fails if Clash of the two doesn't return what the chapter says, and returns the index at which they differ.
func mustClash(t *testing.T, w int, root, p api.Digest, first, second proved) int {
	t.Helper()
	a, b, e := proof.Clash(w, root, p, first.c, first.x, second.c, second.x)
	one, _ := chained(w, p, first.c, first.x)
	two, _ := chained(w, p, second.c, second.x)
	i := 0
	for bytes.Equal(one[i], two[i]) {
		i++
	}
	if !bytes.Equal(a, one[i]) || !bytes.Equal(b, two[i]) || e != api.OK {
		t.Fatalf("P6.3: Clash is %x, %x, %d; want %x, %x of index %d, OK", a, b, e, one[i], two[i], i)
	}
	if bytes.Equal(a, b) || short(w, a) != short(w, b) {
		t.Fatalf("P6.3: %x and %x are no collision of width %d", a, b, w)
	}
	return i
}

// mustNotClash fails if Clash isn't refused with want, or answers anything beside it.
func mustNotClash(t *testing.T, w int, root, p api.Digest, first, second proved, want api.Errno) {
	t.Helper()
	a, b, e := proof.Clash(w, root, p, first.c, first.x, second.c, second.x)
	if len(a) != 0 || len(b) != 0 || e != want {
		t.Fatalf("P6.3: Clash of width %d of %v and %v is %x, %x, %d; want nothing, %d", w, first.c, second.c, a, b, e, want)
	}
}

func TestClashOfTheExamples(t *testing.T) {
	p, v := dice(81)(), dice(82)()
	there := proved{api.Claim{Present: true, Value: v}, api.Proof{}}
	a, b, e := proof.Clash(0, api.Digest{}, p, there.c, there.x, api.Claim{}, api.Proof{})
	if !bytes.Equal(a, leafBytes(p, v)) || len(a) != 65 || string(b) != "\x02" || e != api.OK {
		t.Fatalf("P6.3: Clash is %x, %x, %d", a, b, e)
	}
	a, b, e = proof.Clash(0, api.Digest{}, p, api.Claim{}, api.Proof{}, there.c, there.x)
	if string(a) != "\x02" || !bytes.Equal(b, leafBytes(p, v)) || e != api.OK {
		t.Fatalf("P6.3: Clash the other way round is %x, %x, %d", a, b, e)
	}
	mustNotClash(t, 0, api.Digest{}, p, there, there, api.ErrProofSame)
	mustNotClash(t, 0, api.Digest{}, p, proved{}, proved{}, api.ErrProofSame)
}

// TestClashOfWidth0 lets each claim clash with each other one, with proofs of all lengths.
func TestClashOfWidth0(t *testing.T) {
	p := dice(83)()
	var all []proved
	for _, n := range []int{0, 1, 9, 256} {
		all = append(all, wellFormed(p, n)...)
		turned := wellFormed(p, n)
		for _, y := range turned { // unlike the others at the last sibling alone
			if n > 0 {
				y.x.Siblings = slices.Clone(y.x.Siblings)
				y.x.Siblings[n-1][0] ^= 1
				all = append(all, y)
			}
		}
	}
	for _, first := range all {
		for _, second := range all {
			if first.c == second.c {
				mustNotClash(t, 0, api.Digest{}, p, first, second, api.ErrProofSame)
			} else {
				mustClash(t, 0, api.Digest{}, p, first, second)
			}
		}
	}
}

// TestClashWhereTheyPart: both proofs are the same up to an index; the result is what is hashed there.
func TestClashWhereTheyPart(t *testing.T) {
	p, v, n := dice(84)(), dice(85)(), 12
	s := digests(86, n)
	there, nothing := api.Claim{Present: true, Value: v}, api.Claim{}
	for i := range n {
		turned := slices.Clone(s)
		turned[i] = flipped(turned[i], 255)
		if at := mustClash(t, 0, api.Digest{}, p, proved{there, api.Proof{Siblings: s}}, proved{nothing, api.Proof{Siblings: turned}}); at != i {
			t.Fatalf("P6.3: siblings that differ at %d clash at %d", i, at)
		}
		a, b, _ := proof.Clash(0, api.Digest{}, p, there, api.Proof{Siblings: s[:i]}, nothing, api.Proof{Siblings: s})
		if !bytes.Equal(a, leafBytes(p, v)) || len(b) != 65 || b[0] != 1 {
			t.Fatalf("P6.3: the first proof ends at %d, and clashes by %x and %x", i, a, b)
		}
		a, b, _ = proof.Clash(0, api.Digest{}, p, there, api.Proof{Siblings: s}, nothing, api.Proof{Siblings: s[:i]})
		if len(a) != 65 || a[0] != 1 || string(b) != "\x02" {
			t.Fatalf("P6.3: the second proof ends at %d, and clashes by %x and %x", i, a, b)
		}
	}
	if at := mustClash(t, 0, api.Digest{}, p, proved{there, api.Proof{Siblings: s}}, proved{nothing, api.Proof{Siblings: s}}); at != n {
		t.Fatalf("P6.3: siblings that are the same clash at %d", at)
	}
}

// forged returns claims about p, with proofs that begin with up to all the siblings of x, whose root of width 1 is the same as that of x.
func forged(root, p api.Digest, x api.Proof) []proved {
	var list []proved
	next := dice(87)
	for i := range 12000 {
		y := proved{api.Claim{Present: true, Value: next()}, api.Proof{Siblings: slices.Clone(x.Siblings)}}
		switch i % 4 {
		case 0:
			y.c = api.Claim{}
			y.x.Other, y.x.OtherPath, y.x.OtherValue = true, flipped(p, 250), next()
		case 1:
			y.x.Siblings = append(y.x.Siblings, next())
		case 2:
			y.x.Siblings = y.x.Siblings[:i%len(x.Siblings)]
		}
		if i%8 > 3 && len(y.x.Siblings) > 0 {
			y.x.Siblings[len(y.x.Siblings)-1] = next()
		}
		if rootOf(1, p, y.c, y.x) == root {
			list = append(list, y)
		}
	}
	return list
}

// TestClashOfWidth1 finds true collisions, since one byte is soon guessed.
func TestClashOfWidth1(t *testing.T) {
	l := far(88, 30)
	root := digestAt(1, l, 0)
	indexes := map[int]int{}
	for _, p := range []api.Digest{l[0].Path, flipped(l[1].Path, 251)} {
		c, x := mustMake(t, 1, l, p)
		for _, y := range forged(root, p, x) {
			if y.c == c {
				mustNotClash(t, 1, root, p, proved{c, x}, y, api.ErrProofSame)
				continue
			}
			indexes[mustClash(t, 1, root, p, proved{c, x}, y)]++
			mustClash(t, 1, root, p, y, proved{c, x})
		}
	}
	for i := range 5 {
		if indexes[i] == 0 {
			t.Errorf("P6.3: nothing clashed at index %d: %v", i, indexes)
		}
	}
}

// TestClashTellsErrors: those of the first proof come first, then those of the second, and then that the claims are equal.
func TestClashTellsErrors(t *testing.T) {
	p := dice(89)()
	for _, w := range []int{0, 32} {
		good := proved{api.Claim{Present: true, Value: p}, api.Proof{Siblings: digests(90, 5)}}
		root := rootOf(w, p, good.c, good.x)
		noForm := proved{good.c, api.Proof{Siblings: digests(90, 5), OtherValue: p}}
		noClaim := proved{api.Claim{Value: p}, good.x}
		for _, bad := range []proved{noForm, noClaim} {
			mustNotClash(t, w, root, p, bad, good, api.ErrProofForm)
			mustNotClash(t, w, root, p, good, bad, api.ErrProofForm)
			mustNotClash(t, w, root, p, bad, bad, api.ErrProofForm)
		}
		mustNotClash(t, w, root, p, good, good, api.ErrProofSame)
		mustNotClash(t, w, flipped(root, 255), p, good, good, api.ErrProofRoot)
		mustNotClash(t, w, flipped(root, 255), p, good, noForm, api.ErrProofRoot)
		mustNotClash(t, w, flipped(root, 255), p, noForm, good, api.ErrProofForm)
		for _, v := range refusedWidths {
			mustNotClash(t, v, root, p, good, good, api.ErrArg)
			mustNotClash(t, v, root, p, noForm, good, api.ErrArg)
			mustNotClash(t, v, root, p, good, noForm, api.ErrArg)
			mustNotClash(t, v, root, p, proved{}, good, api.ErrArg)
		}
	}
	good := proved{api.Claim{Present: true, Value: p}, api.Proof{Siblings: digests(90, 5)}}
	root := rootOf(32, p, good.c, good.x)
	unrooted := proved{api.Claim{}, good.x}
	noForm := proved{api.Claim{}, api.Proof{Other: true, OtherPath: p}}
	same := proved{good.c, api.Proof{Siblings: digests(91, 5)}} // the same claim, with another root
	mustNotClash(t, 32, root, p, unrooted, good, api.ErrProofRoot)
	mustNotClash(t, 32, root, p, good, unrooted, api.ErrProofRoot)
	mustNotClash(t, 32, root, p, unrooted, noForm, api.ErrProofRoot)
	mustNotClash(t, 32, root, p, noForm, unrooted, api.ErrProofForm)
	mustNotClash(t, 32, root, p, unrooted, unrooted, api.ErrProofRoot)
	mustNotClash(t, 32, root, p, good, same, api.ErrProofRoot)
	mustNotClash(t, 32, root, p, same, good, api.ErrProofRoot)
}

func TestClashOfOneClaimWithTwoProofs(t *testing.T) {
	p := dice(92)()
	c := api.Claim{Present: true, Value: p}
	mustNotClash(t, 0, api.Digest{}, p, proved{c, api.Proof{Siblings: digests(93, 3)}}, proved{c, api.Proof{Siblings: digests(94, 9)}}, api.ErrProofSame)
	other := api.Proof{Other: true, OtherPath: flipped(p, 9), OtherValue: p}
	mustNotClash(t, 0, api.Digest{}, p, proved{api.Claim{}, other}, proved{api.Claim{}, api.Proof{}}, api.ErrProofSame)
}

func TestClashKeepsNothing(t *testing.T) {
	p := dice(95)()
	one, two := digests(96, 20), digests(97, 20)
	oldOne, oldTwo := slices.Clone(one), slices.Clone(two)
	c, x, y := api.Claim{Present: true, Value: p}, api.Proof{Siblings: one[:9]}, api.Proof{Siblings: two[:9]}
	a, b, _ := proof.Clash(0, api.Digest{}, p, c, x, api.Claim{}, y)
	if !slices.Equal(one, oldOne) || !slices.Equal(two, oldTwo) {
		t.Fatalf("R2: Clash changed what was handed in")
	}
	first, second := bytes.Clone(a), bytes.Clone(b)
	clear(one)
	clear(two)
	if !bytes.Equal(a, first) || !bytes.Equal(b, second) {
		t.Fatalf("R2: what Clash returned changes with what was handed in")
	}
	clear(a[:cap(a)])
	again, other, _ := proof.Clash(0, api.Digest{}, p, c, api.Proof{Siblings: oldOne[:9]}, api.Claim{}, api.Proof{Siblings: oldTwo[:9]})
	if !bytes.Equal(b, second) || !bytes.Equal(again, first) || !bytes.Equal(other, second) {
		t.Fatalf("R2: results of Clash share memory")
	}
}
