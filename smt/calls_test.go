package smt_test

import (
	"slices"
	"testing"

	"tabellion/api"
	"tabellion/smt"
)

// pool returns leaves of which some are next to one another, some far apart.
func pool() []api.Leaf {
	l := far(61, 12)
	for i, x := range l {
		for _, bit := range []int{edgeBits[i], 253, 255} {
			l = append(l, api.Leaf{Path: flipped(x.Path, bit), Value: x.Value})
		}
	}
	return append(l, adjacent(62, 10)...)
}

// held returns the leaves of the map.
func held(model map[api.Digest]api.Digest) []api.Leaf {
	var l []api.Leaf
	for p, v := range model {
		l = append(l, api.Leaf{Path: p, Value: v})
	}
	return l
}

// step does to the tree and to the map what the dice say.
func step(t *testing.T, x *smt.Tree, model map[api.Digest]api.Digest, leaves []api.Leaf, cast api.Digest) {
	t.Helper()
	n := len(leaves)
	if cast[0] < 120 {
		p := leaves[int(cast[1])%n].Path
		_, there := model[p]
		mustDrop(t, x, p, there)
		delete(model, p)
		return
	}
	var l []api.Leaf
	for i := range int(cast[2]) % 6 {
		l = append(l, api.Leaf{Path: leaves[(int(cast[3])+i*7)%n].Path, Value: api.Digest{cast[4+i]}})
	}
	if cast[0] < 140 && len(l) > 0 {
		mustSet(t, x, append(l, l[0]), api.ErrSmtTwice)
		return
	}
	mustSet(t, x, l, api.OK)
	for _, y := range l {
		model[y.Path] = y.Value
	}
}

func TestManyCalls(t *testing.T) {
	leaves := pool()
	for k, w := range edgeWidths {
		next := dice(uint32(70 + k))
		x, model := mustNew(t, w), map[api.Digest]api.Digest{}
		for i := range 200 {
			step(t, x, model, leaves, next())
			if i%(k+1) == 0 { // roots are requested more and less often
				mustHold(t, x, w, held(model))
				for _, y := range leaves {
					if _, there := model[y.Path]; !there {
						mustLack(t, x, y.Path)
					}
				}
			}
		}
	}
}

func TestTreesBesideOneAnother(t *testing.T) {
	leaves := pool()
	next := dice(80)
	first, second, idle := mustNew(t, 32), mustNew(t, 32), mustNew(t, 31)
	mustSet(t, idle, leaves, api.OK)
	a, b := map[api.Digest]api.Digest{}, map[api.Digest]api.Digest{}
	for range 60 {
		step(t, first, a, leaves, next())
		mustHold(t, second, 32, held(b))
		step(t, second, b, leaves, next())
		mustHold(t, first, 32, held(a))
	}
	mustHold(t, idle, 31, leaves)
}

func TestRootsBetweenTheCalls(t *testing.T) {
	asked, quiet := mustNew(t, 32), mustNew(t, 32)
	a, b := map[api.Digest]api.Digest{}, map[api.Digest]api.Digest{}
	one, two := dice(90), dice(90)
	for range 300 {
		step(t, asked, a, pool(), one())
		step(t, quiet, b, pool(), two())
		root := asked.Root()
		for range 3 {
			if again := asked.Root(); again != root {
				t.Fatalf("P5.3: Root is %x, and then %x", root, again)
			}
		}
	}
	if asked.Root() != quiet.Root() {
		t.Fatalf("P5.4: Root is %x if it was requested before, and %x if not", asked.Root(), quiet.Root())
	}
}

func TestTheRootHangsOnTheLeavesAlone(t *testing.T) {
	for _, l := range sets() {
		for _, w := range []int{0, 1, 32} {
			want, e := smt.Root(w, l)
			if e != api.OK {
				t.Fatalf("P5.2: Root of %d leaves is refused: %d", len(l), e)
			}
			if got, e := smt.Root(w, backward(l)); got != want || e != api.OK {
				t.Fatalf("P5.4: Root of the leaves in the opposite order is %x, %d; want %x, OK", got, e, want)
			}
			for i, x := range built(t, w, l) {
				if got := x.Root(); got != want {
					t.Fatalf("P5.4: Root of a tree built in way %d of %d leaves is %x; want %x", i, len(l), got, want)
				}
			}
		}
	}
}

// built returns trees with the leaves l, built in several ways.
func built(t *testing.T, w int, l []api.Leaf) []*smt.Tree {
	t.Helper()
	whole, single, opposite, parts, detour := mustNew(t, w), mustNew(t, w), mustNew(t, w), mustNew(t, w), mustNew(t, w)
	mustSet(t, whole, l, api.OK)
	for i := range l {
		mustSet(t, single, l[i:i+1], api.OK)
		single.Root()
		mustSet(t, opposite, l[len(l)-1-i:len(l)-i], api.OK)
	}
	for part := range slices.Chunk(l, 7) {
		mustSet(t, parts, part, api.OK)
	}
	// With other values, and with leaves that go again: beside each one, and far away.
	mustSet(t, detour, valued(l, api.Digest{200}), api.OK)
	detour.Root()
	gone := far(121, 30)
	for i, x := range l {
		gone = append(gone, api.Leaf{Path: flipped(x.Path, edgeBits[i%len(edgeBits)])})
	}
	for _, x := range gone {
		mustSet(t, detour, []api.Leaf{x}, api.OK)
	}
	detour.Root()
	for _, x := range gone {
		detour.Drop(x.Path) // some are there twice
	}
	mustSet(t, detour, l, api.OK)
	return []*smt.Tree{whole, single, opposite, parts, detour}
}
