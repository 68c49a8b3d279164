package proof

import (
	"sort"

	"tabellion/api"
	"tabellion/smt"
)

// tree is what digests of leaves depend on beside the leaves.
type tree struct {
	width int
	none  api.Digest // of nothing, which may stand at every depth
}

// parted returns those of the leaves whose bit at the depth is 0, and those whose bit is 1. The leaves are in increasing order, and their paths begin with the same bits, as many as the depth.
func parted(l []api.Leaf, depth int) (zeros, ones []api.Leaf) {
	n := sort.Search(len(l), func(i int) bool { return bitIs1(l[i].Path, depth) })
	return l[:n], l[n:]
}

// digest returns the digest of the leaves at the depth.
func (t tree) digest(l []api.Leaf, depth int) api.Digest {
	switch len(l) {
	case 0:
		return t.none
	case 1:
		return smt.Leaf(t.width, l[0])
	}
	zeros, ones := parted(l, depth)
	return smt.Node(t.width, t.digest(zeros, depth+1), t.digest(ones, depth+1))
}

// descent returns the siblings of p in a tree of width w with the leaves l, which are in increasing order of their paths, and the leaves, one at most, that are left where the siblings end.
func descent(w int, l []api.Leaf, p api.Digest) (siblings []api.Digest, end []api.Leaf) {
	t := tree{width: w, none: smt.Empty(w)}
	for depth := 0; len(l) > 1; depth++ {
		on, beside := parted(l, depth)
		if bitIs1(p, depth) {
			on, beside = beside, on
		}
		siblings = append(siblings, t.digest(beside, depth+1))
		l = on
	}
	return siblings, l
}
