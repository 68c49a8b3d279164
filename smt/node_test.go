package smt

import (
	"testing"

	"tabellion/api"
	"tabellion/sha"
)

// hashed returns n leaves whose paths and values are sums.
func hashed(n int) []api.Leaf {
	var l []api.Leaf
	for i := range n {
		l = append(l, api.Leaf{Path: sha.Sum([]byte{byte(i), byte(i >> 8)}), Value: sha.Sum([]byte{byte(i), byte(i >> 8), 1})})
	}
	return l
}

// nodes returns n and all nodes below it.
func nodes(n *node) []*node {
	list := []*node{n}
	if n.size > 1 {
		list = append(append(list, nodes(n.left)...), nodes(n.right)...)
	}
	return list
}

func TestSealComputesOnce(t *testing.T) {
	var s sealed
	calls := 0
	for i := range 5 {
		got := s.seal(func() api.Digest {
			calls++
			return api.Digest{byte(7 + i)}
		})
		if got != (api.Digest{7}) || calls != 1 {
			t.Fatalf("request %d answers %x, after %d computations", i, got, calls)
		}
	}
}

func TestDigestsWaitForARequest(t *testing.T) {
	x, _ := New(32)
	x.Set(hashed(100))
	x.Drop(hashed(1)[0].Path)
	x.Leaves()
	for _, n := range nodes(x.top) {
		if n.sum != (api.Digest{}) {
			t.Fatalf("a node of %d leaves has a digest that nobody requested", n.size)
		}
	}
	x.Root()
	for _, n := range nodes(x.top) {
		if n.sum == (api.Digest{}) || n.sum != n.digest() {
			t.Fatalf("a node of %d leaves below a root that was requested has the digest %x", n.size, n.sum)
		}
	}
}

func TestNodesAreImmutable(t *testing.T) {
	x, _ := New(32)
	l := hashed(200)
	x.Set(l[:100])
	old := x.top
	all := nodes(old)
	root := x.Root()
	x.Set(l[100:])
	x.Drop(l[3].Path)
	x.Set([]api.Leaf{{Path: l[4].Path}})
	x.Root()
	again := nodes(old)
	if len(again) != len(all) {
		t.Fatalf("there were %d nodes, and then %d", len(all), len(again))
	}
	for i := range all {
		if again[i] != all[i] {
			t.Fatalf("node %d has been replaced", i)
		}
	}
	want, _ := Root(32, l[:100])
	if root != want || old.digest() != want {
		t.Fatalf("the digest of the old top is %x, and then %x; want %x", root, old.digest(), want)
	}
}

// TestNodesAreKept counts the nodes that a small change makes new.
func TestNodesAreKept(t *testing.T) {
	x, _ := New(32)
	l := hashed(1000)
	x.Set(l[:999])
	before := map[*node]int{}
	for _, n := range nodes(x.top) {
		before[n] = n.size
	}
	mustMakeFew := func() {
		t.Helper()
		made := 0
		for _, n := range nodes(x.top) {
			if before[n] == 0 && n.size > 0 {
				made++
			}
		}
		if made > 40 {
			t.Fatalf("a change of one leaf made %d nodes of %d", made, len(nodes(x.top)))
		}
	}
	x.Set(l[999:])
	mustMakeFew()
	x.Drop(l[999].Path)
	x.Drop(l[500].Path)
	mustMakeFew()
}
