package head_test

import (
	"crypto/hmac"
	"crypto/sha256"
	"encoding/binary"
	"fmt"
	"math"
	"strings"
	"testing"

	"tabellion/api"
	"tabellion/head"
)

var (
	epochs   = []int{1, 2, 3, 63, 64, 126, 127, 128, 129, 198, 199, 200}
	noEpochs = []int{0, -1, 201, -2, 202, 255, 256, 257, 16385, -127, -128, -200, 1<<32 + 1, math.MaxInt32, math.MaxInt32 + 2, math.MinInt32, math.MaxInt, math.MinInt}
	keys     = []string{"k", "l", "\x00", "\xff", "ab", "ba", "\xff\xfe\x00\x80", "ż", strings.Repeat("a", 32), strings.Repeat("\x80", 63), strings.Repeat("z", 64), strings.Repeat("\xff", 64), strings.Repeat("z", 63) + "\x00"}
	noKeys   = []string{"", strings.Repeat("z", 65), strings.Repeat("\x00", 65), strings.Repeat("\xff", 66), strings.Repeat("ż", 33), strings.Repeat("b", 128), strings.Repeat("c", 256), strings.Repeat("d", 320), strings.Repeat("e", 65537)}
)

// digests returns some, all different: noughts, all ones, single bits at either end, and any bytes.
func digests() []api.Digest {
	list := []api.Digest{{}, {0: 1}, {0: 128}, {31: 1}, {31: 128}}
	var ones, distinct api.Digest
	for i := range ones {
		ones[i] = 255
		distinct[i] = byte(200 - 3*i)
	}
	return append(list, ones, distinct, sha256.Sum256([]byte("one")), sha256.Sum256([]byte("two")))
}

// heads returns some with each of the epochs.
func heads(epochs []int) []api.Head {
	var list []api.Head
	for _, epoch := range epochs {
		for _, root := range digests() {
			for _, prev := range digests() {
				list = append(list, api.Head{Epoch: epoch, Root: root, Prev: prev})
			}
		}
	}
	return list
}

// written is the encoding of h, be it valid or not.
func written(h api.Head) []byte {
	b := binary.AppendUvarint(nil, uint64(h.Epoch))
	b = append(b, h.Root[:]...)
	return append(b, h.Prev[:]...)
}

// digestOf is the digest of h, be it valid or not.
func digestOf(h api.Head) api.Digest {
	return sha256.Sum256(written(h))
}

// signed is h signed under key, be they valid or not.
func signed(key string, h api.Head) api.Signed {
	m := hmac.New(sha256.New, []byte(key))
	m.Write(written(h))
	return api.Signed{Head: h, Sign: api.Digest(m.Sum(nil))}
}

// isHead is the chapter's 'a head is valid'.
func isHead(h api.Head) bool {
	return 0 < h.Epoch && h.Epoch < 201
}

// isKey is the chapter's 'a signing key'.
func isKey(key string) bool {
	return 0 < len(key) && len(key) < 65
}

// checkOf is what P9.2 says of Check.
func checkOf(key string, s api.Signed) api.Errno {
	switch {
	case !isKey(key) || !isHead(s.Head):
		return api.ErrHeadForm
	case s != signed(key, s.Head):
		return api.ErrHeadSign
	}
	return api.OK
}

// chainOf is P9.3. It finds all errors and returns the first one.
func chainOf(key string, l []api.Signed) api.Errno {
	if !isKey(key) {
		return api.ErrHeadForm
	}
	var all []api.Errno
	for i := range l {
		var prev api.Digest
		if i > 0 {
			prev = digestOf(l[i-1].Head)
		}
		if e := checkOf(key, l[i]); e != api.OK {
			all = append(all, e)
		}
		if l[i].Head.Epoch != i+1 || l[i].Head.Prev != prev {
			all = append(all, api.ErrHeadChain)
		}
	}
	return append(all, api.OK)[0]
}

// chained returns the heads of a chain with these roots.
func chained(roots ...api.Digest) []api.Head {
	var list []api.Head
	for i, root := range roots {
		h := api.Head{Epoch: i + 1, Root: root}
		if i > 0 {
			h.Prev = digestOf(list[i-1])
		}
		list = append(list, h)
	}
	return list
}

// roots returns n that depend on the name.
func roots(name string, n int) []api.Digest {
	var list []api.Digest
	for i := range n {
		list = append(list, sha256.Sum256(fmt.Appendf(nil, "%s %d", name, i)))
	}
	return list
}

// all signs the heads under key.
func all(key string, heads []api.Head) []api.Signed {
	var list []api.Signed
	for _, h := range heads {
		list = append(list, signed(key, h))
	}
	return list
}

// some returns a chain of n signed heads.
func some(key string, n int) []api.Signed {
	return all(key, chained(roots("some", n)...))
}

// brief tells s, cut if it is long.
func brief(s string) string {
	return fmt.Sprintf("%d bytes %q", len(s), s[:min(len(s), 20)])
}

// mustCheck fails if Check isn't want.
func mustCheck(t *testing.T, key string, s api.Signed, want api.Errno) {
	t.Helper()
	if e := head.Check(key, s); e != want {
		t.Fatalf("P9.2: Check under the key of %s of %+v is %d; want %d", brief(key), s, e, want)
	}
}

// mustChain fails if Chain isn't want.
func mustChain(t *testing.T, key string, l []api.Signed, want api.Errno) {
	t.Helper()
	if e := head.Chain(key, l); e != want {
		t.Fatalf("P9.3: Chain under the key of %s of %d heads is %d; want %d; the first ones are %+v", brief(key), len(l), e, want, l[:min(len(l), 3)])
	}
}

// TestReference: the reference accepts and refuses what it is meant to.
func TestReference(t *testing.T) {
	l := some("k", 200)
	if e := chainOf("k", l); e != api.OK {
		t.Fatalf("the reference refuses a chain: %d", e)
	}
	if e := chainOf("l", l); e != api.ErrHeadSign {
		t.Fatalf("the reference accepts a chain under another key: %d", e)
	}
	if e := chainOf("k", l[1:]); e != api.ErrHeadChain {
		t.Fatalf("the reference accepts a chain without its first head: %d", e)
	}
	if e := chainOf("k", some("k", 201)); e != api.ErrHeadForm {
		t.Fatalf("the reference accepts a chain of 201 heads: %d", e)
	}
}
