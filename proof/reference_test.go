package proof_test

import (
	"crypto/sha256"
	"math"
	"slices"
	"testing"

	"tabellion/api"
	"tabellion/proof"
)

// edgeWidths are the widths at the ends, those beside them, and one between.
var edgeWidths = []int{0, 1, 2, 17, 31, 32}

// refusedWidths are numbers that are no widths.
var refusedWidths = []int{-1, -2, -32, -33, 33, 34, 64, 255, 256, math.MaxInt32, math.MinInt32, math.MaxInt, math.MinInt, math.MinInt + 1}

// edgeBits are bits at the ends of bytes, of words and of the path, and those beside them.
var edgeBits = []int{0, 1, 7, 8, 63, 64, 127, 128, 247, 248, 254, 255}

// isOne reports whether bit i of p is 1, by the words of the chapter on paths.
func isOne(p api.Digest, i int) bool {
	return p[i/8]&[]byte{128, 64, 32, 16, 8, 4, 2, 1}[i%8] != 0
}

// flipped returns p with bit i changed.
func flipped(p api.Digest, i int) api.Digest {
	p[i/8] ^= []byte{128, 64, 32, 16, 8, 4, 2, 1}[i%8]
	return p
}

// begins reports whether a and b have the same first n bits.
func begins(a, b api.Digest, n int) bool {
	for i := range n {
		if isOne(a, i) != isOne(b, i) {
			return false
		}
	}
	return true
}

// short is the chapter's Short.
func short(w int, b []byte) api.Digest {
	d := api.Digest(sha256.Sum256(b))
	for i := range d {
		if i >= w {
			d[i] = 0
		}
	}
	return d
}

// leafBytes and nodeBytes are what is hashed for a leaf and for an inner node.
func leafBytes(p, v api.Digest) []byte {
	return slices.Concat([]byte{0}, p[:], v[:])
}

func nodeBytes(left, right api.Digest) []byte {
	return slices.Concat([]byte{1}, left[:], right[:])
}

// digestAt is the digest of the leaves at a depth, by the words of the chapter on trees.
func digestAt(w int, l []api.Leaf, depth int) api.Digest {
	switch len(l) {
	case 0:
		return short(w, []byte{2})
	case 1:
		return short(w, leafBytes(l[0].Path, l[0].Value))
	}
	var zeros, ones []api.Leaf
	for _, x := range l {
		if isOne(x.Path, depth) {
			ones = append(ones, x)
		} else {
			zeros = append(zeros, x)
		}
	}
	return short(w, nodeBytes(digestAt(w, zeros, depth+1), digestAt(w, ones, depth+1)))
}

// made is what Make returns of leaves that aren't refused, by the chapter's words.
func made(w int, l []api.Leaf, p api.Digest) (c api.Claim, x api.Proof) {
	for _, y := range l {
		if y.Path == p {
			c = api.Claim{Present: true, Value: y.Value}
		}
	}
	for i := range 256 {
		l = slices.DeleteFunc(slices.Clone(l), func(y api.Leaf) bool { return !begins(y.Path, p, i) })
		if len(l) < 2 {
			break
		}
		others := slices.DeleteFunc(slices.Clone(l), func(y api.Leaf) bool { return isOne(y.Path, i) == isOne(p, i) })
		x.Siblings = append(x.Siblings, digestAt(w, others, i+1))
	}
	for _, y := range l {
		if !c.Present && begins(y.Path, p, len(x.Siblings)) {
			x.Other, x.OtherPath, x.OtherValue = true, y.Path, y.Value
		}
	}
	return c, x
}

// chained is what is hashed for x at each index, that of index 0 first, and its root, by the chapter's words.
func chained(w int, p api.Digest, c api.Claim, x api.Proof) ([][]byte, api.Digest) {
	n := len(x.Siblings)
	list := make([][]byte, n+1)
	list[n] = []byte{2}
	if c.Present {
		list[n] = leafBytes(p, c.Value)
	} else if x.Other {
		list[n] = leafBytes(x.OtherPath, x.OtherValue)
	}
	for i := n - 1; i >= 0; i-- {
		d := short(w, list[i+1])
		if isOne(p, i) {
			list[i] = nodeBytes(x.Siblings[i], d)
		} else {
			list[i] = nodeBytes(d, x.Siblings[i])
		}
	}
	return list, short(w, list[0])
}

// rootOf is the root of x.
func rootOf(w int, p api.Digest, c api.Claim, x api.Proof) api.Digest {
	_, root := chained(w, p, c, x)
	return root
}

// dice returns digests without a period that a byte or a word could hide, the same ones for the same seed.
func dice(seed uint32) func() api.Digest {
	return func() api.Digest {
		var d api.Digest
		for i := range d {
			seed = seed*1664525 + 1013904223
			d[i] = byte(seed >> 24)
		}
		return d
	}
}

// digests returns n digests.
func digests(seed uint32, n int) []api.Digest {
	next := dice(seed)
	var list []api.Digest
	for range n {
		list = append(list, next())
	}
	return list
}

// far returns n leaves whose paths are far apart.
func far(seed uint32, n int) []api.Leaf {
	next := dice(seed)
	var l []api.Leaf
	for range n {
		l = append(l, api.Leaf{Path: next(), Value: next()})
	}
	return l
}

// adjacent returns n leaves whose paths follow one another, not in order.
func adjacent(seed uint32, n int) []api.Leaf {
	next := dice(seed)
	first := next()
	var l []api.Leaf
	for i := range n {
		i = (i*7 + 3) % n // n is no multiple of 7
		x := api.Leaf{Path: first, Value: next()}
		x.Path[30], x.Path[31] = byte(i>>8), byte(i)
		l = append(l, x)
	}
	return l
}

// partners returns n leaves, an even number, of which each two differ at the last bit of their paths alone.
func partners(seed uint32, n int) []api.Leaf {
	var l []api.Leaf
	for _, x := range far(seed, n/2) {
		l = append(l, x, api.Leaf{Path: flipped(x.Path, 255), Value: x.Path})
	}
	return l
}

// sets are sets of leaves of many kinds.
func sets() [][]api.Leaf {
	next := dice(17)
	p := next()
	list := [][]api.Leaf{
		nil,
		{},
		{{}},
		{{Value: api.Digest{5}}},
		{{Path: p, Value: next()}},
		{{Path: api.Digest{128}}, {Value: api.Digest{5}}},
		{{Path: api.Digest{31: 1}}, {}},
		{{Path: flipped(p, 255), Value: next()}, {Path: p, Value: next()}, {Path: flipped(p, 0), Value: next()}},
		adjacent(3, 2), adjacent(4, 3), adjacent(5, 16),
		far(8, 2), far(9, 3), far(10, 40), far(11, 200),
		partners(13, 2), partners(14, 10),
	}
	for _, i := range edgeBits {
		list = append(list, []api.Leaf{{Path: p, Value: next()}, {Path: flipped(p, i), Value: next()}})
	}
	return list
}

// asked are paths about which to ask a tree with the leaves l: some of its own, some that part from these early and late, and some that have nothing to do with it.
func asked(l []api.Leaf) []api.Digest {
	list := []api.Digest{{}, {128}, {31: 1}, dice(99)()}
	for i, x := range l {
		if i < 4 || i == len(l)-1 {
			list = append(list, x.Path)
			for _, bit := range edgeBits {
				list = append(list, flipped(x.Path, bit))
			}
		}
	}
	return list
}

// sameProof reports whether x and y are the same proof; a list without elements may be nil.
func sameProof(x, y api.Proof) bool {
	return slices.Equal(x.Siblings, y.Siblings) && x.Other == y.Other && x.OtherPath == y.OtherPath && x.OtherValue == y.OtherValue
}

// mustMake returns what Make does, and fails if that isn't what the chapter says.
func mustMake(t *testing.T, w int, l []api.Leaf, p api.Digest) (api.Claim, api.Proof) {
	t.Helper()
	c, x, e := proof.Make(w, l, p)
	d, y := made(w, l, p)
	if c != d || !sameProof(x, y) || e != api.OK {
		t.Fatalf("P6.1: Make(%d, %d leaves, %x) is %v, %v, %d; want %v, %v, OK", w, len(l), p, c, x, e, d, y)
	}
	return c, x
}

// mustCheck fails if Check doesn't return want.
func mustCheck(t *testing.T, w int, root, p api.Digest, c api.Claim, x api.Proof, want api.Errno) {
	t.Helper()
	if e := proof.Check(w, root, p, c, x); e != want {
		t.Fatalf("P6.2: Check(%d, %x, %x, %v, %d siblings, %t %x) is %d; want %d", w, root, p, c, len(x.Siblings), x.Other, x.OtherPath, e, want)
	}
}
