package head_test

import (
	"encoding/hex"
	"testing"

	"tabellion/api"
	"tabellion/head"
)

// TestExamples has those of the chapter.
func TestExamples(t *testing.T) {
	h := api.Head{Epoch: 1}
	if b, e := head.Bytes(h); string(b) != "\x01"+string(make([]byte, 64)) || e != api.OK {
		t.Errorf("P9.1: Bytes(H) is % x, %d", b, e)
	}
	s, e := head.Sign("k", h)
	if s.Head != h || e != api.OK {
		t.Errorf("P9.2: Sign(k, H) is %+v, %d", s, e)
	}
	mustCheck(t, "k", s, api.OK)
	mustCheck(t, "l", s, api.ErrHeadSign)
	mustChain(t, "k", []api.Signed{s}, api.OK)
	mustChain(t, "k", []api.Signed{s, s}, api.ErrHeadChain)
	mustChain(t, "", nil, api.ErrHeadForm)
}

// TestWhatIsKnown has digests that were computed outside the program.
func TestWhatIsKnown(t *testing.T) {
	h := api.Head{Epoch: 1}
	d, _ := head.Digest(h)
	s, _ := head.Sign("k", h)
	g := api.Head{Epoch: 200, Root: d, Prev: s.Sign}
	f, _ := head.Digest(g)
	u, _ := head.Sign("k", g)
	for _, x := range []struct {
		name string
		got  api.Digest
		want string
	}{
		{"Digest(H)", d, "ae0798d0ecaed2b778eddebf18f071a561c53658c05e76cedecc27cafbdbc577"}, {"Sign(k, H)", s.Sign, "de5d0c61313be22b26cdffd2422ff5e4472fbbf5fa297d19dc3690e80dab7eae"},
		{"Digest of epoch 200", f, "b0e94ef7efff23343644f711d5a528ed4ba811384ee8b9cbe177c82e641b8f52"}, {"Sign of epoch 200", u.Sign, "f31b0bc1161982badd66b9564b2bb10b283c22df44af00cf799e0dc95e0badd4"},
	} {
		if got := hex.EncodeToString(x.got[:]); got != x.want {
			t.Errorf("P9.1, P9.2: %s is %s; want %s", x.name, got, x.want)
		}
	}
}
