package smt

import (
	"slices"
	"sort"

	"tabellion/api"
	"tabellion/path"
)

// Tree is leaves.
type Tree struct {
	none *node // stands wherever there are no leaves
	top  *node // has all the leaves, at depth 0
}

// New returns a tree without leaves.
func New(w int) (*Tree, api.Errno) {
	if !isWidth(w) {
		return nil, api.ErrArg
	}
	none := &node{width: w}
	return &Tree{none: none, top: none}, api.OK
}

// single returns a node with one leaf.
func (t *Tree) single(l api.Leaf) *node {
	return &node{width: t.none.width, size: 1, leaf: &l}
}

// joined returns the node of the leaves of two nodes that are one deeper. One leaf stands for itself at every depth.
func (t *Tree) joined(left, right *node) *node {
	size := left.size + right.size
	if size > 1 {
		return &node{width: t.none.width, size: size, left: left, right: right}
	}
	if left.size == 1 {
		return left
	}
	return right
}

// sides returns the nodes of the leaves of n whose bit at the depth is 0, and of those whose bit is 1.
func (t *Tree) sides(n *node, depth int) (left, right *node) {
	switch {
	case n.size > 1:
		return n.left, n.right
	case n.size == 1 && bitIs1(n.leaf.Path, depth):
		return t.none, n
	}
	return n, t.none
}

// with returns n with the leaves l, which replace those that have the same paths. All these paths begin with the same bits, as many as the depth; those of l increase.
func (t *Tree) with(n *node, l []api.Leaf, depth int) *node {
	switch {
	case len(l) == 0:
		return n
	case len(l) == 1 && (n.size == 0 || n.has(l[0].Path)):
		return t.single(l[0])
	}
	left, right := t.sides(n, depth)
	ones := sort.Search(len(l), func(i int) bool { return bitIs1(l[i].Path, depth) })
	return t.joined(t.with(left, l[:ones], depth+1), t.with(right, l[ones:], depth+1))
}

// without returns n without the leaf with path p, which it has.
func (t *Tree) without(n *node, p api.Digest, depth int) *node {
	if n.size == 1 {
		return t.none
	}
	if bitIs1(p, depth) {
		return t.joined(n.left, t.without(n.right, p, depth+1))
	}
	return t.joined(t.without(n.left, p, depth+1), n.right)
}

// ordered returns a copy of l in increasing order of the paths.
func ordered(l []api.Leaf) []api.Leaf {
	l = slices.Clone(l)
	sort.Slice(l, func(i, j int) bool { return path.Less(l[i].Path, l[j].Path) })
	return l
}

// hasTwice reports whether two of the leaves, which are in order, have the same path.
func hasTwice(l []api.Leaf) bool {
	for i := 1; i < len(l); i++ {
		if l[i-1].Path == l[i].Path {
			return true
		}
	}
	return false
}

// Set makes all elements of l leaves, each replacing a leaf with the same path.
func (t *Tree) Set(l []api.Leaf) api.Errno {
	if t == nil {
		return api.ErrNil
	}
	if len(l) > api.MaxList {
		return api.ErrLimit
	}
	l = ordered(l)
	if hasTwice(l) {
		return api.ErrSmtTwice
	}
	top := t.with(t.top, l, 0)
	if top.size > api.MaxList {
		return api.ErrLimit
	}
	t.top = top
	return api.OK
}

// Drop reports whether there is a leaf with path p, and removes it.
func (t *Tree) Drop(p api.Digest) bool {
	_, found := t.Get(p)
	if found {
		t.top = t.without(t.top, p, 0)
	}
	return found
}

// Get returns the value of the leaf with path p, and whether there is one.
func (t *Tree) Get(p api.Digest) (api.Digest, bool) {
	if t == nil {
		return api.Digest{}, false
	}
	n := t.top
	for depth := 0; n.size > 1; depth++ {
		if bitIs1(p, depth) {
			n = n.right
		} else {
			n = n.left
		}
	}
	if !n.has(p) {
		return api.Digest{}, false
	}
	return n.leaf.Value, true
}

// Len returns the number of leaves.
func (t *Tree) Len() int {
	if t == nil {
		return 0
	}
	return t.top.size
}

// Leaves returns all leaves in increasing order of their paths.
func (t *Tree) Leaves() []api.Leaf {
	if t == nil {
		return nil
	}
	return t.top.list(make([]api.Leaf, 0, t.top.size))
}

// Root returns the root of the leaves.
func (t *Tree) Root() api.Digest {
	if t == nil {
		return api.Digest{}
	}
	return t.top.digest()
}
