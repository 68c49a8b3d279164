package head_test

import (
	"bytes"
	"crypto/sha256"
	"testing"

	"tabellion/api"
	"tabellion/head"
)

func TestBytesAndDigest(t *testing.T) {
	for _, h := range heads(epochs) {
		b, e := head.Bytes(h)
		if want := written(h); !bytes.Equal(b, want) || e != api.OK {
			t.Fatalf("P9.1: Bytes(%+v) is % x, %d; want % x", h, b, e, want)
		}
		if d, e := head.Digest(h); d != sha256.Sum256(b) || e != api.OK {
			t.Fatalf("P9.1: Digest(%+v) is %x, %d; want that of % x", h, d, e, b)
		}
	}
}

// TestBytesOfEpochs has the counts spelt out, as the number of their bytes changes within the epochs.
func TestBytesOfEpochs(t *testing.T) {
	for _, x := range []struct {
		epoch int
		count string
	}{{1, "\x01"}, {2, "\x02"}, {126, "\x7e"}, {127, "\x7f"}, {128, "\x80\x01"}, {129, "\x81\x01"}, {199, "\xc7\x01"}, {200, "\xc8\x01"}} {
		h := api.Head{Epoch: x.epoch, Root: digests()[6], Prev: digests()[7]}
		want := x.count + string(h.Root[:]) + string(h.Prev[:])
		if b, e := head.Bytes(h); string(b) != want || e != api.OK {
			t.Errorf("P9.1: Bytes(%+v) is % x, %d; want % x", h, b, e, want)
		}
	}
	for epoch := -300; epoch <= 600; epoch++ {
		h := api.Head{Epoch: epoch, Root: digests()[7]}
		b, e := head.Bytes(h)
		if valid := 1 <= epoch && epoch <= 200; valid != (e == api.OK) || valid != (len(b) > 0) {
			t.Errorf("P9.1: Bytes with epoch %d is % x, %d", epoch, b, e)
		}
	}
}

func TestBytesAndDigestOfNoHead(t *testing.T) {
	for _, h := range heads(noEpochs) {
		if b, e := head.Bytes(h); len(b) != 0 || e != api.ErrHeadForm {
			t.Fatalf("P9.1: Bytes(%+v) is % x, %d; want nothing, ErrHeadForm", h, b, e)
		}
		if d, e := head.Digest(h); d != (api.Digest{}) || e != api.ErrHeadForm {
			t.Fatalf("P9.1: Digest(%+v) is %x, %d; want zero, ErrHeadForm", h, d, e)
		}
	}
}

// TestBytesTellHeadsApart: no two heads have the same bytes or the same digest.
func TestBytesTellHeadsApart(t *testing.T) {
	texts, sums := map[string]api.Head{}, map[api.Digest]api.Head{}
	for _, h := range heads(epochs) {
		b, _ := head.Bytes(h)
		d, _ := head.Digest(h)
		if g, found := texts[string(b)]; found {
			t.Fatalf("P9.1: Bytes of %+v and of %+v are the same", g, h)
		}
		if g, found := sums[d]; found {
			t.Fatalf("P9.1: Digest of %+v and of %+v are the same", g, h)
		}
		texts[string(b)], sums[d] = h, h
	}
}
