package head_test

import (
	"bytes"
	"slices"
	"testing"

	"tabellion/api"
	"tabellion/head"
)

// TestBytesReturnsNewMemory overwrites every answer, up to its capacity, after the others were given.
func TestBytesReturnsNewMemory(t *testing.T) {
	list := few(epochs)
	var given [][]byte
	for range 2 {
		for _, h := range list {
			b, _ := head.Bytes(h)
			given = append(given, b)
		}
	}
	for i, b := range given {
		if h := list[i%len(list)]; !bytes.Equal(b, written(h)) {
			t.Fatalf("R2: what Bytes of %+v returned was changed by a change of an earlier answer: % x", h, b)
		}
		for j := range b[:cap(b)] {
			b[:cap(b)][j] = 0x77
		}
	}
	for _, h := range list {
		if b, e := head.Bytes(h); !bytes.Equal(b, written(h)) || e != api.OK {
			t.Fatalf("R2: Bytes of %+v is % x, %d, after an earlier answer was changed", h, b, e)
		}
		if d, _ := head.Digest(h); d != digestOf(h) {
			t.Fatalf("R2: Digest of %+v is %x, after an answer of Bytes was changed", h, d)
		}
		if s, _ := head.Sign("k", h); s != signed("k", h) {
			t.Fatalf("R2: Sign of %+v is %+v, after an answer of Bytes was changed", h, s)
		}
	}
}

// TestBytesBehindOthers: an answer has no room in which another one lies.
func TestBytesBehindOthers(t *testing.T) {
	one, _ := head.Bytes(api.Head{Epoch: 1})
	two, _ := head.Bytes(api.Head{Epoch: 2})
	_ = append(one, bytes.Repeat([]byte{0x77}, 500)...)
	if !bytes.Equal(two, written(api.Head{Epoch: 2})) || !bytes.Equal(one, written(api.Head{Epoch: 1})) {
		t.Fatalf("R2: what follows an answer of Bytes is another answer: % x, % x", one, two)
	}
}

func TestChainChangesAndKeepsNothing(t *testing.T) {
	lists := [][]api.Signed{nil, some("k", 1), some("k", 5), some("k", 200), some("k", 201), some("l", 3), some("k", 5)[2:], make([]api.Signed, 4)}
	for _, f := range faults() {
		l := some("k", 5)
		l[2] = f.spoil(l[2])
		lists = append(lists, l)
	}
	foreign := api.Signed{Head: api.Head{Epoch: 77, Root: api.Digest{7}}, Sign: api.Digest{7}}
	for _, l := range lists {
		whole := append(slices.Clone(l), foreign, foreign, foreign) // behind the list's end, in its memory
		before := slices.Clone(whole)
		want := chainOf("k", l)
		mustChain(t, "k", whole[:len(l)], want)
		if !slices.Equal(whole, before) {
			t.Fatalf("R2: Chain changed its list, or what lies behind it")
		}
		for i := range whole {
			whole[i] = foreign
		}
		mustChain(t, "k", whole[:len(l)], chainOf("k", whole[:len(l)]))
		copy(whole, before)
		mustChain(t, "k", whole[:len(l)], want)
	}
}

// TestAnswersDependOnArgumentsAlone: calls that are refused or that concern another key or head leave nothing behind.
func TestAnswersDependOnArgumentsAlone(t *testing.T) {
	for range 3 {
		for _, key := range append(keys, noKeys...) {
			for _, h := range append(few(epochs), few(noEpochs)...) {
				s, e := head.Sign(key, h)
				want := api.Signed{}
				if isKey(key) && isHead(h) {
					want = signed(key, h)
				}
				if s != want || (e == api.OK) != (want != api.Signed{}) {
					t.Fatalf("R2: Sign under the key of %s of %+v is %+v, %d", brief(key), h, s, e)
				}
				mustCheck(t, key, s, checkOf(key, s))
				mustChain(t, key, []api.Signed{s}, chainOf(key, []api.Signed{s}))
			}
		}
	}
}
