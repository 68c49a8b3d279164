package head_test

import (
	"slices"
	"testing"

	"tabellion/api"
	"tabellion/head"
)

func TestWhatWasSignedIsAccepted(t *testing.T) {
	for _, key := range keys {
		for _, h := range few(epochs) {
			s, e := head.Sign(key, h)
			if e != api.OK || s.Head != h {
				t.Fatalf("P9.4: Sign of %+v is %+v, %d", h, s, e)
			}
			if e := head.Check(key, s); e != api.OK {
				t.Fatalf("P9.4: what was signed under the key of %s is refused: %d", brief(key), e)
			}
		}
	}
}

// built returns the chain with these roots that the package's own calls make.
func built(t *testing.T, key string, roots []api.Digest) []api.Signed {
	t.Helper()
	var l []api.Signed
	var prev api.Digest
	for i, root := range roots {
		s, e := head.Sign(key, api.Head{Epoch: i + 1, Root: root, Prev: prev})
		if e != api.OK {
			t.Fatalf("P9.4: the head of epoch %d isn't signed: %d", i+1, e)
		}
		l = append(l, s)
		prev, _ = head.Digest(s.Head)
	}
	return l
}

func TestAPrefixOfAChainIsAChain(t *testing.T) {
	for _, key := range []string{"k", keys[6], keys[10]} {
		l := built(t, key, roots("prefix", 200))
		for n := range len(l) + 1 {
			if e := head.Chain(key, l[:n]); e != api.OK {
				t.Fatalf("P9.4: the first %d heads of a chain are refused: %d", n, e)
			}
		}
	}
}

// branches returns the heads of all chains of n epochs, in each of which the root is one of two.
func branches(n int) []api.Head {
	front := []api.Head{{}}
	var list []api.Head
	for epoch := 1; epoch <= n; epoch++ {
		var next []api.Head
		for _, before := range front {
			for _, root := range []api.Digest{{}, {5}} {
				h := api.Head{Epoch: epoch, Root: root}
				if epoch > 1 {
					h.Prev = digestOf(before)
				}
				next = append(next, h)
			}
		}
		front = next
		list = append(list, next...)
	}
	return list
}

// lists calls f with every list of n of the heads.
func lists(heads []api.Head, n int, f func(l []api.Head)) {
	if n == 0 {
		f(nil)
		return
	}
	lists(heads, n-1, func(l []api.Head) {
		for _, h := range heads {
			f(append(slices.Clone(l), h))
		}
	})
}

// TestEqualHeadsHaveEqualHeadsBefore tries every list of heads that could be spliced from chains that branch.
func TestEqualHeadsHaveEqualHeadsBefore(t *testing.T) {
	var chains [][]api.Head
	for n, want := range []int{1, 2, 4, 8} {
		found := 0
		lists(branches(3), n, func(l []api.Head) {
			k, other := head.Chain("k", all("k", l)), head.Chain("l", all("l", l))
			if k != other {
				t.Fatalf("P9.4: Chain of %+v is %d under one key and %d under another", l, k, other)
			}
			if k == api.OK {
				chains = append(chains, l)
				found++
			}
		})
		if found != want {
			t.Fatalf("P9.4: %d lists of %d heads are chains; want %d", found, n, want)
		}
	}
	for _, one := range chains {
		for _, two := range chains {
			for i := range min(len(one), len(two)) {
				if one[i] == two[i] && !slices.Equal(one[:i], two[:i]) {
					t.Fatalf("P9.4: the chains %+v and %+v have the same head at %d, and others before it", one, two, i)
				}
			}
		}
	}
}
