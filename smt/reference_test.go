package smt_test

import (
	"crypto/sha256"
	"math"
	"slices"
	"testing"

	"tabellion/api"
	"tabellion/smt"
)

// widths are all widths.
func widths() []int {
	var list []int
	for w := range 33 {
		list = append(list, w)
	}
	return list
}

// edgeWidths are the widths at the ends, those beside them, and one between.
var edgeWidths = []int{0, 1, 2, 17, 31, 32}

// refusedWidths are numbers that are no widths.
var refusedWidths = []int{-1, -2, -31, -32, -33, 33, 34, 64, 255, 256, 1 << 20, math.MaxInt32, math.MinInt32, math.MaxInt, math.MinInt, math.MinInt + 1}

// edgeBits are bits at the ends of bytes, of words and of the path, and those beside them.
var edgeBits = []int{0, 1, 6, 7, 8, 9, 62, 63, 64, 65, 127, 128, 191, 192, 247, 248, 254, 255}

// short is the chapter's Short of the parts one behind another.
func short(w int, parts ...[]byte) api.Digest {
	d := api.Digest(sha256.Sum256(slices.Concat(parts...)))
	for i := range d {
		if i >= w {
			d[i] = 0
		}
	}
	return d
}

// isOne reports whether bit i of p is 1, by the words of the chapter on paths.
func isOne(p api.Digest, i int) bool {
	return p[i/8]&[]byte{128, 64, 32, 16, 8, 4, 2, 1}[i%8] != 0
}

// flipped returns p with bit i changed.
func flipped(p api.Digest, i int) api.Digest {
	p[i/8] ^= []byte{128, 64, 32, 16, 8, 4, 2, 1}[i%8]
	return p
}

// digestAt is the digest of the leaves at a depth, by the chapter's words.
func digestAt(w int, l []api.Leaf, depth int) api.Digest {
	switch len(l) {
	case 0:
		return short(w, []byte{2})
	case 1:
		return short(w, []byte{0}, l[0].Path[:], l[0].Value[:])
	}
	var zeros, ones []api.Leaf
	for _, x := range l {
		if isOne(x.Path, depth) {
			ones = append(ones, x)
		} else {
			zeros = append(zeros, x)
		}
	}
	left, right := digestAt(w, zeros, depth+1), digestAt(w, ones, depth+1)
	return short(w, []byte{1}, left[:], right[:])
}

// dice returns digests without a period that a byte or a word could hide, the same ones for the same seed.
func dice(seed uint32) func() api.Digest {
	return func() api.Digest {
		var d api.Digest
		for i := range d {
			seed = seed*1664525 + 1013904223
			d[i] = byte(seed >> 24)
		}
		return d
	}
}

// far returns n leaves whose paths are far apart.
func far(seed uint32, n int) []api.Leaf {
	next := dice(seed)
	var l []api.Leaf
	for range n {
		l = append(l, api.Leaf{Path: next(), Value: next()})
	}
	return l
}

// adjacent returns n leaves whose paths follow one another, not in order.
func adjacent(seed uint32, n int) []api.Leaf {
	next := dice(seed)
	first := next()
	var l []api.Leaf
	for i := range n {
		i = (i*7 + 3) % n // n is no multiple of 7
		x := api.Leaf{Path: first, Value: next()}
		x.Path[30], x.Path[31] = byte(i>>8), byte(i)
		l = append(l, x)
	}
	return l
}

// partners returns n leaves, an even number, of which each two differ at the last bit of their paths alone.
func partners(seed uint32, n int) []api.Leaf {
	var l []api.Leaf
	for _, x := range far(seed, n/2) {
		l = append(l, x, api.Leaf{Path: flipped(x.Path, 255), Value: x.Value})
	}
	return l
}

// valued returns the leaves with d as the value of each.
func valued(l []api.Leaf, d api.Digest) []api.Leaf {
	l = slices.Clone(l)
	for i := range l {
		l[i].Value = d
	}
	return l
}

// backward returns the leaves in the opposite order.
func backward(l []api.Leaf) []api.Leaf {
	l = slices.Clone(l)
	slices.Reverse(l)
	return l
}

// sets are sets of leaves of many kinds.
func sets() [][]api.Leaf {
	next := dice(17)
	p := next()
	list := [][]api.Leaf{
		nil,
		{},
		{{}},
		{{Value: api.Digest{5}}},
		{{Path: p, Value: p}},
		{{Path: api.Digest{128}}, {Value: api.Digest{5}}},
		{{Path: api.Digest{31: 1}}, {}},
		{{Path: flipped(p, 255), Value: next()}, {Path: p, Value: next()}, {Path: flipped(p, 0), Value: next()}},
		adjacent(3, 2), adjacent(4, 3), adjacent(5, 16), adjacent(6, 257), valued(adjacent(7, 300), p),
		far(8, 2), far(9, 3), far(10, 40), far(11, 1000), valued(far(12, 100), api.Digest{}),
		partners(13, 2), partners(14, 20), valued(partners(15, 8), p),
	}
	for _, i := range edgeBits {
		list = append(list, []api.Leaf{{Path: p, Value: next()}, {Path: flipped(p, i), Value: next()}})
	}
	return list
}

// mustHaveRoot fails if Root(w, l) isn't what the chapter says.
func mustHaveRoot(t *testing.T, w int, l []api.Leaf) {
	t.Helper()
	got, e := smt.Root(w, l)
	if want := digestAt(w, l, 0); got != want || e != api.OK {
		t.Fatalf("P5.2: Root of width %d of %d leaves is %x, %d; want %x, OK", w, len(l), got, e, want)
	}
}

// mustNew returns a new tree.
func mustNew(t *testing.T, w int) *smt.Tree {
	t.Helper()
	x, e := smt.New(w)
	if x == nil || e != api.OK {
		t.Fatalf("P5.3: New(%d) is %v, %d; want a tree, OK", w, x, e)
	}
	return x
}

// mustSet fails if the tree's answer to Set isn't e.
func mustSet(t *testing.T, x *smt.Tree, l []api.Leaf, e api.Errno) {
	t.Helper()
	if got := x.Set(l); got != e {
		t.Fatalf("P5.3: Set of %d leaves, of a tree with %d, is %d; want %d", len(l), x.Len(), got, e)
	}
}

// mustDrop fails if the tree's answer to Drop isn't as told.
func mustDrop(t *testing.T, x *smt.Tree, p api.Digest, want bool) {
	t.Helper()
	if got := x.Drop(p); got != want {
		t.Fatalf("P5.3: Drop(%x) of a tree with %d leaves is %t; want %t", p, x.Len(), got, want)
	}
}

// mustHold fails if the leaves of the tree, which has width w, aren't l in whatever order.
func mustHold(t *testing.T, x *smt.Tree, w int, l []api.Leaf) {
	t.Helper()
	sorted := slices.Clone(l)
	slices.SortFunc(sorted, func(a, b api.Leaf) int { return slices.Compare(a.Path[:], b.Path[:]) })
	if n := x.Len(); n != len(l) {
		t.Fatalf("P5.3: Len is %d; want %d", n, len(l))
	}
	if got := x.Leaves(); !slices.Equal(got, sorted) {
		t.Fatalf("P5.3: Leaves is %x; want %x", got, sorted)
	}
	if got, want := x.Root(), digestAt(w, l, 0); got != want {
		t.Fatalf("P5.3: Root of %d leaves is %x; want %x", len(l), got, want)
	}
	for _, y := range l {
		if v, ok := x.Get(y.Path); v != y.Value || !ok {
			t.Fatalf("P5.3: Get(%x) is %x, %t; want %x, true", y.Path, v, ok, y.Value)
		}
	}
}

// mustLack fails if the tree has a leaf with path p.
func mustLack(t *testing.T, x *smt.Tree, p api.Digest) {
	t.Helper()
	if v, ok := x.Get(p); v != (api.Digest{}) || ok {
		t.Fatalf("P5.3: Get(%x) is %x, %t; want zeros, false", p, v, ok)
	}
}
