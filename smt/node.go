package smt

import (
	"sync"

	"tabellion/api"
	"tabellion/path"
)

// sealed is a digest that is computed once: when it is first requested.
type sealed struct {
	once sync.Once
	sum  api.Digest
}

// seal returns what compute returned at the first request.
func (s *sealed) seal(compute func() api.Digest) api.Digest {
	s.once.Do(func() { s.sum = compute() })
	return s.sum
}

// node is the leaves at a depth whose paths begin with the same bits, as many as the depth. Nodes are immutable: where a tree changes it gets new ones, and it keeps all others with the digests that they have computed.
type node struct {
	sealed
	width       int
	size        int       // how many leaves there are
	leaf        *api.Leaf // if there is one
	left, right *node     // if there are more: those whose bit at the depth is 0, and those whose bit is 1
}

// digest returns the digest of the leaves at the node's depth.
func (n *node) digest() api.Digest {
	return n.seal(func() api.Digest {
		switch n.size {
		case 0:
			return Empty(n.width)
		case 1:
			return Leaf(n.width, *n.leaf)
		}
		return Node(n.width, n.left.digest(), n.right.digest())
	})
}

// has reports whether p is the path of a leaf, where there is at most one.
func (n *node) has(p api.Digest) bool {
	return n.size == 1 && n.leaf.Path == p
}

// list appends the leaves to l, in increasing order of their paths.
func (n *node) list(l []api.Leaf) []api.Leaf {
	switch n.size {
	case 0:
		return l
	case 1:
		return append(l, *n.leaf)
	}
	return n.right.list(n.left.list(l))
}

// bitIs1 reports whether bit i of p, which there is, is 1.
func bitIs1(p api.Digest, i int) bool {
	bit, _ := path.Bit(p, i)
	return bit == 1
}
