package head_test

import (
	"strings"
	"testing"

	"tabellion/api"
	"tabellion/head"
)

// few are heads with each of the epochs, one root and two previous digests.
func few(epochs []int) []api.Head {
	var list []api.Head
	for _, epoch := range epochs {
		list = append(list, api.Head{Epoch: epoch}, api.Head{Epoch: epoch, Root: digests()[6], Prev: digests()[7]})
	}
	return list
}

// block is what HMAC makes of a signing key: two keys with the same block are the same to it.
func block(key string) string {
	return key + strings.Repeat("\x00", 64-len(key))
}

func TestSign(t *testing.T) {
	for _, key := range keys {
		for _, h := range few(epochs) {
			if s, e := head.Sign(key, h); s != signed(key, h) || e != api.OK {
				t.Fatalf("P9.2: Sign under the key of %s of %+v is %+v, %d", brief(key), h, s, e)
			}
		}
	}
	for _, h := range heads(epochs) {
		if s, e := head.Sign("k", h); s != signed("k", h) || e != api.OK {
			t.Fatalf("P9.2: Sign of %+v is %+v, %d", h, s, e)
		}
	}
}

// mustRefuse fails if Sign or Check accepts the key with h, whatever the signature.
func mustRefuse(t *testing.T, key string, h api.Head) {
	t.Helper()
	if s, e := head.Sign(key, h); s != (api.Signed{}) || e != api.ErrHeadForm {
		t.Fatalf("P9.2: Sign under the key of %s of %+v is %+v, %d; want zero, ErrHeadForm", brief(key), h, s, e)
	}
	mustCheck(t, key, signed(key, h), api.ErrHeadForm)
	mustCheck(t, key, signed("k", h), api.ErrHeadForm)
	mustCheck(t, key, api.Signed{Head: h}, api.ErrHeadForm)
}

func TestSignAndCheckUnderNoKey(t *testing.T) {
	for _, key := range noKeys {
		for _, h := range few(epochs) {
			mustRefuse(t, key, h)
		}
	}
}

func TestSignAndCheckOfNoHead(t *testing.T) {
	for _, h := range few(noEpochs) {
		for _, key := range keys {
			mustRefuse(t, key, h)
		}
	}
	mustCheck(t, "k", api.Signed{}, api.ErrHeadForm)
}

func TestSignAndCheckOfNeither(t *testing.T) {
	for _, h := range few(noEpochs) {
		for _, key := range noKeys {
			mustRefuse(t, key, h)
		}
	}
}

func TestSignUnderKeysOfAllLengths(t *testing.T) {
	for n := range 200 {
		for _, c := range []string{"\x00", "k", "\xff"} {
			key := strings.Repeat(c, n)
			s, e := head.Sign(key, api.Head{Epoch: 5})
			if valid := 1 <= n && n <= 64; valid != (e == api.OK) || !valid && s != (api.Signed{}) {
				t.Errorf("P9.2: Sign under a key of %d bytes is %+v, %d", n, s, e)
			}
		}
	}
}

// TestCheckWithOneBitTurned turns each bit of a signature and of the head's digests.
func TestCheckWithOneBitTurned(t *testing.T) {
	for _, key := range keys {
		s := signed(key, api.Head{Epoch: 128, Root: digests()[6], Prev: digests()[7]})
		mustCheck(t, key, s, api.OK)
		for bit := range 256 {
			sign, root, prev := s, s, s
			sign.Sign[bit/8] ^= 1 << (bit % 8)
			root.Head.Root[bit/8] ^= 1 << (bit % 8)
			prev.Head.Prev[bit/8] ^= 1 << (bit % 8)
			mustCheck(t, key, sign, api.ErrHeadSign)
			mustCheck(t, key, root, api.ErrHeadSign)
			mustCheck(t, key, prev, api.ErrHeadSign)
		}
	}
}

func TestCheckOfAForeignSignature(t *testing.T) {
	for _, key := range keys {
		for _, h := range few(epochs) {
			s := signed(key, h)
			for _, d := range append(digests(), h.Root, h.Prev, digestOf(h)) {
				mustCheck(t, key, api.Signed{Head: h, Sign: d}, api.ErrHeadSign)
			}
			for _, g := range few(epochs) { // the signature of one head, for another one
				want := api.ErrHeadSign
				if g == h {
					want = api.OK
				}
				mustCheck(t, key, api.Signed{Head: g, Sign: s.Sign}, want)
			}
			exchanged := s
			exchanged.Head.Root, exchanged.Head.Prev = h.Prev, h.Root
			mustCheck(t, key, exchanged, checkOf(key, exchanged))
		}
	}
}

func TestCheckUnderAnotherKey(t *testing.T) {
	for _, h := range few(epochs) {
		for _, key := range keys {
			for _, other := range append(keys, key+"x", key+"\x00", "x"+key) {
				want := api.ErrHeadSign
				switch {
				case !isKey(other):
					want = api.ErrHeadForm
				case block(other) == block(key): // to HMAC, a key and the same with bytes 0 behind it are one
					want = api.OK
				}
				mustCheck(t, other, signed(key, h), want)
			}
		}
	}
}

func TestCheckOfAll(t *testing.T) {
	found := map[api.Errno]int{}
	for _, key := range append(keys, noKeys...) {
		for _, h := range append(few(epochs), few(noEpochs)...) {
			for _, s := range []api.Signed{signed(key, h), signed("k", h), {Head: h}} {
				want := checkOf(key, s)
				mustCheck(t, key, s, want)
				found[want]++
			}
		}
	}
	if found[api.OK] < 100 || found[api.ErrHeadForm] < 100 || found[api.ErrHeadSign] < 100 {
		t.Fatalf("too few of a sort: %v", found)
	}
}
