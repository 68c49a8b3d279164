package smt_test

import (
	"slices"
	"testing"

	"tabellion/api"
	"tabellion/smt"
)

func TestNew(t *testing.T) {
	for _, w := range widths() {
		x := mustNew(t, w)
		mustHold(t, x, w, nil)
		mustLack(t, x, api.Digest{})
		mustDrop(t, x, api.Digest{}, false)
		mustSet(t, x, nil, api.OK)
		mustSet(t, x, []api.Leaf{}, api.OK)
		mustHold(t, x, w, nil)
		if x.Root() != smt.Empty(w) {
			t.Fatalf("P5.3: Root of a tree without leaves is %x; want %x", x.Root(), smt.Empty(w))
		}
	}
}

func TestTreeOfTheExample(t *testing.T) {
	a := api.Leaf{Value: api.Digest{5}}
	b := api.Leaf{Path: api.Digest{128}, Value: api.Digest{6}}
	x := mustNew(t, 32)
	mustSet(t, x, []api.Leaf{a, b}, api.OK)
	mustDrop(t, x, b.Path, true)
	if x.Root() != smt.Leaf(32, a) {
		t.Fatalf("P5.3: Root is %x; want %x", x.Root(), smt.Leaf(32, a))
	}
}

func TestSetOfAllSets(t *testing.T) {
	next := dice(31)
	for _, l := range sets() {
		for _, w := range edgeWidths {
			x := mustNew(t, w)
			mustSet(t, x, l, api.OK)
			mustHold(t, x, w, l)
			mustLack(t, x, next())
			mustSet(t, x, l, api.OK) // the same again
			mustHold(t, x, w, l)
		}
	}
}

func TestSetReplaces(t *testing.T) {
	for _, l := range sets() {
		x := mustNew(t, 32)
		mustSet(t, x, l, api.OK)
		other := valued(l, api.Digest{77})
		mustSet(t, x, other[len(l)/2:], api.OK)
		mustHold(t, x, 32, slices.Concat(l[:len(l)/2], other[len(l)/2:]))
		mustSet(t, x, backward(other), api.OK)
		mustHold(t, x, 32, other)
	}
}

// TestSetReplacesAndAdds has sets of which some paths are there, others beside them at the edge bits, and others far away.
func TestSetReplacesAndAdds(t *testing.T) {
	next := dice(32)
	for _, w := range edgeWidths {
		x := mustNew(t, w)
		first := far(33, 9)
		mustSet(t, x, first, api.OK)
		second := valued(first[3:6], next())
		for _, i := range edgeBits {
			second = append(second, api.Leaf{Path: flipped(first[i%9].Path, i), Value: next()})
		}
		second = append(second, far(34, 5)...)
		mustSet(t, x, second, api.OK)
		mustHold(t, x, w, slices.Concat(first[:3], first[6:], second))
	}
}

func TestSetIsRefused(t *testing.T) {
	l := append(far(41, 20), adjacent(42, 20)...)
	for _, w := range edgeWidths {
		x := mustNew(t, w)
		mustSet(t, x, l, api.OK)
		mustRefuse := func(refused []api.Leaf, e api.Errno) {
			t.Helper()
			mustSet(t, x, refused, e)
			mustHold(t, x, w, l)
		}
		mustRefuse(far(43, 4097), api.ErrLimit)
		mustRefuse(make([]api.Leaf, 4097), api.ErrLimit) // how many there are is told first
		mustRefuse(make([]api.Leaf, 4096), api.ErrSmtTwice)
		mustRefuse(far(44, 4057), api.ErrLimit) // 4097 with those that are there
		mustRefuse(append(far(44, 4060), far(44, 1)...), api.ErrSmtTwice)
		for _, i := range []int{0, 19, 20, 39} { // twins of what is there, with like and with unlike values, and others beside them
			twin := api.Leaf{Path: l[i].Path, Value: api.Digest{9}}
			mustRefuse([]api.Leaf{twin, twin}, api.ErrSmtTwice)
			mustRefuse([]api.Leaf{twin, l[i]}, api.ErrSmtTwice)
			mustRefuse(slices.Concat([]api.Leaf{twin}, far(45, 50), []api.Leaf{l[i]}), api.ErrSmtTwice)
		}
	}
}

func TestTheMostLeaves(t *testing.T) {
	all := slices.Concat(far(51, 2000), adjacent(52, 1096), partners(53, 1000))
	more := far(54, 3)
	x := mustNew(t, 32)
	mustSet(t, x, all[:4095], api.OK)
	mustSet(t, x, more[:2], api.ErrLimit)
	mustHold(t, x, 32, all[:4095])
	mustSet(t, x, all, api.OK) // of which one is new
	mustHold(t, x, 32, all)
	mustSet(t, x, more[:1], api.ErrLimit)
	mustSet(t, x, append(backward(all[:4095]), more[0]), api.ErrLimit)
	mustSet(t, x, more, api.ErrLimit)
	mustSet(t, x, append(more, more[0]), api.ErrSmtTwice) // twins are told ahead of how many there would be
	mustHold(t, x, 32, all)
	mustSet(t, x, nil, api.OK)
	other := valued(all, api.Digest{1})
	mustSet(t, x, other, api.OK) // replacing needs no room
	mustHold(t, x, 32, other)
	mustDrop(t, x, other[0].Path, true)
	mustSet(t, x, more[:2], api.ErrLimit)
	mustSet(t, x, more[:1], api.OK)
	mustHold(t, x, 32, append(other[1:], more[0]))
}

func TestDrop(t *testing.T) {
	for _, l := range sets() {
		if len(l) > 300 { // each leaf costs a root
			l = l[:300]
		}
		x := mustNew(t, 32)
		mustSet(t, x, l, api.OK)
		for i, y := range l {
			for _, bit := range []int{0, 128, 255} {
				if beside := flipped(y.Path, bit); !slices.ContainsFunc(l, func(z api.Leaf) bool { return z.Path == beside }) {
					mustLack(t, x, beside)
					mustDrop(t, x, beside, false)
				}
			}
			if i%20 == 0 || i > len(l)-3 {
				mustHold(t, x, 32, l[i:])
			}
			mustDrop(t, x, y.Path, true)
			mustLack(t, x, y.Path)
			mustDrop(t, x, y.Path, false)
			if i%20 == 0 || i > len(l)-3 {
				mustHold(t, x, 32, l[i+1:])
			}
		}
		mustSet(t, x, l, api.OK)
		mustHold(t, x, 32, l)
	}
}

func TestNilTree(t *testing.T) {
	var x *smt.Tree
	for _, l := range append(sets(), make([]api.Leaf, 2), make([]api.Leaf, 4097)) {
		mustSet(t, x, l, api.ErrNil)
	}
	for _, p := range []api.Digest{{}, {128}, {31: 1}} {
		mustDrop(t, x, p, false)
		mustLack(t, x, p)
	}
	if x.Len() != 0 || len(x.Leaves()) != 0 || x.Root() != (api.Digest{}) {
		t.Fatalf("P5.3: a nil tree has Len %d, Leaves %x, Root %x", x.Len(), x.Leaves(), x.Root())
	}
}

func TestWhatLeavesToldIsApart(t *testing.T) {
	l := append(far(101, 30), adjacent(102, 30)...)
	x := mustNew(t, 32)
	mustSet(t, x, l, api.OK)
	told, again := x.Leaves(), x.Leaves()
	old := slices.Clone(told)
	mustDrop(t, x, l[0].Path, true)
	mustSet(t, x, valued(l[1:], api.Digest{3}), api.OK)
	mustSet(t, x, far(103, 9), api.OK)
	if !slices.Equal(told, old) {
		t.Fatalf("R2: what Leaves told has changed with the tree")
	}
	want := x.Leaves()
	clear(told)
	if !slices.Equal(again, old) {
		t.Fatalf("R2: two answers of Leaves share memory")
	}
	if v, ok := x.Get(l[1].Path); v != (api.Digest{3}) || !ok {
		t.Fatalf("R2: Get is %x, %t", v, ok)
	}
	clear(x.Leaves())
	_ = append(x.Leaves()[:0], far(104, 5)...)
	mustHold(t, x, 32, want)
}

func TestSetLeavesAndForgetsItsArgument(t *testing.T) {
	for _, l := range append(sets(), make([]api.Leaf, 2)) {
		l = append(slices.Clone(l), far(111, 3)...) // of which the last three aren't handed in
		old := slices.Clone(l)
		n := len(l) - 3
		x, later := mustNew(t, 32), mustNew(t, 32)
		e := x.Set(l[:n])
		if f := later.Set(l[:n]); f != e || !slices.Equal(l, old) {
			t.Fatalf("R2: Set of %d leaves is %d and %d, or changed what was handed in", n, e, f)
		}
		if e != api.OK {
			mustHold(t, x, 32, nil)
			continue
		}
		mustHold(t, x, 32, old[:n])
		clear(l)
		mustHold(t, x, 32, old[:n])
		mustHold(t, later, 32, old[:n]) // whose root wasn't requested before
	}
}
