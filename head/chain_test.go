package head_test

import (
	"fmt"
	"math/rand"
	"slices"
	"testing"

	"tabellion/api"
)

func TestChainOfNothing(t *testing.T) {
	for _, none := range [][]api.Signed{nil, {}, some("k", 3)[:0]} {
		for _, key := range keys {
			mustChain(t, key, none, api.OK)
		}
		for _, key := range noKeys {
			mustChain(t, key, none, api.ErrHeadForm)
		}
	}
}

func TestChainOfEveryLength(t *testing.T) {
	l := some("k", 200)
	for n := range 201 {
		mustChain(t, "k", l[:n], api.OK)
	}
	for _, key := range keys {
		for _, n := range []int{1, 2, 3, 127, 128, 200} {
			mustChain(t, key, some(key, n), api.OK)
		}
	}
	for _, root := range digests() { // a root may be anything, also the same one in all epochs
		mustChain(t, "k", all("k", chained(slices.Repeat([]api.Digest{root}, 200)...)), api.OK)
	}
	mustChain(t, "k", all("k", chained(digests()...)), api.OK)
}

func TestChainUnderNoKey(t *testing.T) {
	for _, key := range noKeys {
		for _, n := range []int{1, 2, 200, 201} {
			mustChain(t, key, some(key, n), api.ErrHeadForm)
			mustChain(t, key, some("k", n), api.ErrHeadForm)
			mustChain(t, key, make([]api.Signed, n), api.ErrHeadForm)
		}
		mustChain(t, key, some("k", 3)[1:], api.ErrHeadForm)
	}
}

func TestChainUnderAnotherKey(t *testing.T) {
	for _, n := range []int{1, 2, 200, 201} {
		mustChain(t, "l", some("k", n), api.ErrHeadSign)
	}
	l := some("k", 200)
	for i := range l {
		m := slices.Clone(l)
		m[i] = signed("l", m[i].Head)
		mustChain(t, "k", m, api.ErrHeadSign)
		mustChain(t, "k", m[:i], api.OK)
		mustChain(t, "k", m[:i+1], api.ErrHeadSign)
	}
	for i := range l {
		m := slices.Concat(l[:i], some("l", 200)[i:])
		mustChain(t, "k", m, api.ErrHeadSign)
	}
}

// TestChainOfTooMany: the head at position 201 either has an epoch that is none, or one that is another position's.
func TestChainOfTooMany(t *testing.T) {
	l := some("k", 200)
	prev := digestOf(l[199].Head)
	mustChain(t, "k", some("k", 201), api.ErrHeadForm)
	mustChain(t, "k", some("k", 202), api.ErrHeadForm)
	for _, epoch := range noEpochs {
		mustChain(t, "k", append(l[:200:200], signed("k", api.Head{Epoch: epoch, Prev: prev})), api.ErrHeadForm)
	}
	for _, epoch := range epochs {
		mustChain(t, "k", append(l[:200:200], signed("k", api.Head{Epoch: epoch, Prev: prev})), api.ErrHeadChain)
		mustChain(t, "k", append(l[:200:200], signed("l", api.Head{Epoch: epoch, Prev: prev})), api.ErrHeadSign)
	}
	mustChain(t, "k", append(l[:200:200], l...), api.ErrHeadChain)
	mustChain(t, "k", append(l[:200:200], make([]api.Signed, 100000)...), api.ErrHeadForm)
	mustChain(t, "k", slices.Repeat(l[:1], 100000), api.ErrHeadChain)
}

// TestChainOfEpochs has heads each of which names the one before it, with epochs that don't count from 1 on.
func TestChainOfEpochs(t *testing.T) {
	for _, x := range []struct {
		epochs []int
		want   api.Errno
	}{
		{[]int{1}, api.OK}, {[]int{1, 2}, api.OK}, {[]int{1, 2, 3}, api.OK},
		{[]int{2}, api.ErrHeadChain}, {[]int{200}, api.ErrHeadChain}, {[]int{2, 3}, api.ErrHeadChain}, {[]int{2, 3, 4}, api.ErrHeadChain}, {[]int{2, 1}, api.ErrHeadChain},
		{[]int{1, 1}, api.ErrHeadChain}, {[]int{1, 2, 2}, api.ErrHeadChain}, {[]int{1, 2, 2, 3}, api.ErrHeadChain}, {[]int{1, 1, 2}, api.ErrHeadChain}, {[]int{1, 1, 3}, api.ErrHeadChain},
		{[]int{1, 2, 1}, api.ErrHeadChain}, {[]int{1, 2, 3, 2}, api.ErrHeadChain}, {[]int{1, 2, 3, 1, 5}, api.ErrHeadChain},
		{[]int{1, 3}, api.ErrHeadChain}, {[]int{1, 3, 3}, api.ErrHeadChain}, {[]int{1, 2, 4}, api.ErrHeadChain}, {[]int{1, 2, 4, 4}, api.ErrHeadChain}, {[]int{1, 200}, api.ErrHeadChain},
		{[]int{0}, api.ErrHeadForm}, {[]int{0, 1}, api.ErrHeadForm}, {[]int{-1}, api.ErrHeadForm}, {[]int{201}, api.ErrHeadForm}, {[]int{1, 201}, api.ErrHeadForm}, {[]int{1, 2, 0}, api.ErrHeadForm}, {[]int{1, 2, -3}, api.ErrHeadForm},
		{[]int{1, 3, 0}, api.ErrHeadChain}, {[]int{1, 0, 4}, api.ErrHeadForm}, {[]int{2, 0}, api.ErrHeadChain}, {[]int{0, 3}, api.ErrHeadForm},
	} {
		var l []api.Signed
		var prev api.Digest
		for i, epoch := range x.epochs {
			h := api.Head{Epoch: epoch, Root: digests()[i], Prev: prev}
			prev = digestOf(h)
			l = append(l, signed("k", h))
		}
		mustChain(t, "k", l, x.want)
	}
	l := some("k", 200)
	for i := range l {
		if i < 199 { // without the last one it is still a chain
			mustChain(t, "k", slices.Delete(slices.Clone(l), i, i+1), api.ErrHeadChain)
		}
		mustChain(t, "k", slices.Insert(slices.Clone(l), i, l[i]), api.ErrHeadChain)
	}
	slices.Reverse(l)
	mustChain(t, "k", l, api.ErrHeadChain)
}

func TestChainOfTheFirstPrev(t *testing.T) {
	for _, prev := range append(digests()[1:], digestOf(api.Head{}), digestOf(api.Head{Epoch: 1})) {
		h := api.Head{Epoch: 1, Root: digests()[7], Prev: prev}
		mustChain(t, "k", []api.Signed{signed("k", h)}, api.ErrHeadChain)
		next := api.Head{Epoch: 2, Prev: digestOf(h)}
		mustChain(t, "k", all("k", []api.Head{h, next}), api.ErrHeadChain)
	}
	for bit := range 256 {
		h := api.Head{Epoch: 1}
		h.Prev[bit/8] = 1 << (bit % 8)
		mustChain(t, "k", []api.Signed{signed("k", h)}, api.ErrHeadChain)
	}
}

// TestChainOfAnotherPrev has, at every position but the first, each digest that could be taken for that of the head before it.
func TestChainOfAnotherPrev(t *testing.T) {
	l, other := some("k", 200), all("k", chained(roots("other", 200)...))
	for i := 1; i < len(l); i++ {
		before := l[i-1]
		wrong := []api.Digest{{}, before.Sign, before.Head.Root, before.Head.Prev, digestOf(l[i].Head), digestOf(other[i-1].Head), digestOf(api.Head{Epoch: i, Root: before.Head.Root}), digestOf(api.Head{Epoch: i})}
		if i > 1 {
			wrong = append(wrong, digestOf(l[i-2].Head), digestOf(l[0].Head))
		} else { // the first head has no digest before it
			wrong = wrong[:6]
		}
		right := digestOf(before.Head)
		for bit := range 256 {
			if bit%8 == i%8 {
				d := right
				d[bit/8] ^= 1 << (bit % 8)
				wrong = append(wrong, d)
			}
		}
		for _, prev := range wrong {
			h := api.Head{Epoch: i + 1, Root: l[i].Head.Root, Prev: prev}
			mustChain(t, "k", append(l[:i:i], signed("k", h)), api.ErrHeadChain)
		}
		mustChain(t, "k", append(l[:i:i], other[i:]...), api.ErrHeadChain)
	}
}

// fault spoils an element of a list, so that Chain finds the error that is wanted there, unless there is another one ahead.
type fault struct {
	name  string
	want  api.Errno
	spoil func(s api.Signed) api.Signed
}

// withHead returns the head that change makes of that of s, signed.
func withHead(s api.Signed, change func(h *api.Head)) api.Signed {
	change(&s.Head)
	return signed("k", s.Head)
}

// faults are those of one element.
func faults() []fault {
	return []fault{
		{"epoch 0", api.ErrHeadForm, func(s api.Signed) api.Signed { return withHead(s, func(h *api.Head) { h.Epoch = 0 }) }},
		{"epoch 201", api.ErrHeadForm, func(s api.Signed) api.Signed { return withHead(s, func(h *api.Head) { h.Epoch = 201 }) }},
		{"another key", api.ErrHeadSign, func(s api.Signed) api.Signed { return signed("l", s.Head) }},
		{"a bit of the signature", api.ErrHeadSign, func(s api.Signed) api.Signed { s.Sign[9] ^= 4; return s }},
		{"no signature", api.ErrHeadSign, func(s api.Signed) api.Signed { s.Sign = api.Digest{}; return s }},
		{"another root, not signed", api.ErrHeadSign, func(s api.Signed) api.Signed { s.Head.Root[0] ^= 1; return s }},
		{"a later epoch", api.ErrHeadChain, func(s api.Signed) api.Signed { return withHead(s, func(h *api.Head) { h.Epoch++ }) }},
		{"another prev", api.ErrHeadChain, func(s api.Signed) api.Signed { return withHead(s, func(h *api.Head) { h.Prev[31] ^= 1 }) }},
		{"both", api.ErrHeadChain, func(s api.Signed) api.Signed { return withHead(s, func(h *api.Head) { h.Epoch++; h.Prev[0] ^= 1 }) }},
		{"not signed, a later epoch", api.ErrHeadSign, func(s api.Signed) api.Signed { s.Head.Epoch++; return s }},
		{"not signed, another prev", api.ErrHeadSign, func(s api.Signed) api.Signed { s.Head.Prev[0] ^= 1; return s }},
		{"not signed, epoch 0", api.ErrHeadForm, func(s api.Signed) api.Signed { s.Head.Epoch = 0; return s }},
		{"epoch 201 and another prev", api.ErrHeadForm, func(s api.Signed) api.Signed {
			return withHead(s, func(h *api.Head) { h.Epoch = 201; h.Prev[0] ^= 1 })
		}},
		{"zero", api.ErrHeadForm, func(api.Signed) api.Signed { return api.Signed{} }},
	}
}

func TestChainReturnsTheFirstErrorOfAnElement(t *testing.T) {
	for n := 1; n <= 4; n++ {
		for i := range n {
			for _, f := range faults() {
				t.Run(fmt.Sprintf("%s at %d of %d", f.name, i, n), func(t *testing.T) {
					l := some("k", n)
					l[i] = f.spoil(l[i])
					mustChain(t, "k", l, f.want)
				})
			}
		}
	}
}

func TestChainReturnsTheErrorOfTheFirstElement(t *testing.T) {
	for i := range 4 {
		for j := i + 1; j < 4; j++ {
			for _, f := range faults() {
				for _, g := range faults() {
					l := some("k", 4)
					l[i], l[j] = f.spoil(l[i]), g.spoil(l[j])
					t.Run(fmt.Sprintf("%s at %d, %s at %d", f.name, i, g.name, j), func(t *testing.T) {
						mustChain(t, "k", l, f.want)
					})
				}
			}
		}
	}
}

// TestChainGoesOnFromWhatItFinds: a head that names a wrong one before it is refused, though the ones behind it fit.
func TestChainGoesOnFromWhatItFinds(t *testing.T) {
	for i := range 6 {
		for _, f := range faults() {
			l := some("k", 6)
			l[i] = f.spoil(l[i])
			for j := i + 1; j < len(l); j++ {
				l[j] = withHead(l[j], func(h *api.Head) { h.Prev = digestOf(l[j-1].Head) })
			}
			mustChain(t, "k", l, f.want)
		}
	}
}

// TestChainOfAny holds Chain against the chapter's words, for chains that are spoilt at random.
func TestChainOfAny(t *testing.T) {
	r := rand.New(rand.NewSource(9))
	list, found := faults(), map[api.Errno]int{}
	for range 20000 {
		key := []string{"k", "k", "k", "k", "k", "k", "l", "", noKeys[1]}[r.Intn(9)]
		l := some("k", r.Intn(8))
		for range r.Intn(4) {
			if len(l) == 0 {
				break
			}
			i, j := r.Intn(len(l)), r.Intn(len(l))
			switch r.Intn(5) {
			case 0:
				l[i], l[j] = l[j], l[i]
			case 1:
				l = slices.Delete(l, i, i+1)
			case 2:
				l = slices.Insert(l, i, l[j])
			default:
				l[i] = list[r.Intn(len(list))].spoil(l[i])
			}
		}
		want := chainOf(key, l)
		mustChain(t, key, l, want)
		found[want]++
	}
	for _, e := range []api.Errno{api.OK, api.ErrHeadForm, api.ErrHeadSign, api.ErrHeadChain} {
		if found[e] < 1000 {
			t.Fatalf("error %d was wanted only %d times", e, found[e])
		}
	}
}
