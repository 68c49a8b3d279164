package version_test

import (
	"bytes"
	"crypto/sha256"
	"encoding/hex"
	"slices"
	"strings"
	"testing"

	"tabellion/api"
	"tabellion/version"
)

// mustGet fails if Get(b) isn't l.
func mustGet(t *testing.T, b []byte, l []api.Version) {
	t.Helper()
	if m, e := version.Get(b); !slices.Equal(m, l) || e != api.OK {
		t.Fatalf("P7.4: Get of % x is %s, %d; want %s, OK", b, brief(m), e, brief(l))
	}
}

// mustNotGet fails if Get(b) isn't refused, or answers anything beside it.
func mustNotGet(t *testing.T, b []byte) {
	t.Helper()
	if m, e := version.Get(b); len(m) > 0 || e != api.ErrVersionForm {
		t.Fatalf("P7.4: Get of %d bytes, % x .., is %s, %d; want nothing, ErrVersionForm", len(b), b[:min(len(b), 80)], brief(m), e)
	}
}

// encoded are histories and their encodings, by hand.
func encoded() map[string][]api.Version {
	return map[string][]api.Version{
		"\x00":                           nil,
		"\x01\x01\x01\x01k":              of(put(1, "k")),
		"\x02\x01\x01\x01k\x02\x02\x01l": of(put(1, "k"), rotate(2, "l")),
		"\x02\x01\x01\x01k\x02\x03\x00":  of(put(1, "k"), revoke(2)),
		"\x01\x7f\x01\x02\xff\x00":       of(put(127, "\xff\x00")),
		"\x01\x80\x01\x01\x01k":          of(put(128, "k")),
		"\x01\xc8\x01\x01\x01k":          of(put(200, "k")),
		"\x01\x05\x01\x02\xc5\xbc":       of(put(5, "ż")),
		"\x03\x09\x01\x01k\x09\x03\x00\xc8\x01\x01\x03\x00\x00\x00":                    of(put(9, "k"), revoke(9), put(200, "\x00\x00\x00")),
		"\x01\x01\x01\x40" + strings.Repeat("z", 64):                                   of(put(1, strings.Repeat("z", 64))),
		"\x10\x01\x01\x01k" + strings.Repeat("\x01\x02\x01l", 15):                      spelt(1, "P"+strings.Repeat("R", 15)),
		"\x10" + strings.Repeat("\x02\x01\x01k\x02\x03\x00", 8):                        spelt(2, strings.Repeat("PV", 8)),
		"\x0f\x01\x01\x01k" + strings.Repeat("\x01\x02\x01l", 14):                      spelt(1, "P"+strings.Repeat("R", 14)),
		"\x03\x01\x01\x01k\x02\x02\x40" + strings.Repeat("\x80", 64) + "\x03\x02\x01l": of(put(1, "k"), rotate(2, strings.Repeat("\x80", 64)), rotate(3, "l")),
	}
}

func TestPutByHand(t *testing.T) {
	for want, l := range encoded() {
		if b, e := version.Put(l); string(b) != want || e != api.OK {
			t.Errorf("P7.4: Put of %s is % x, %d; want % x", brief(l), b, e, want)
		}
	}
	if b, e := version.Put(of()); string(b) != "\x00" || e != api.OK {
		t.Errorf("P7.4: Put of no versions is % x, %d", b, e)
	}
}

func TestGetByHand(t *testing.T) {
	for b, l := range encoded() {
		mustGet(t, []byte(b), l)
	}
}

func TestPutGetAndDigestOfHistories(t *testing.T) {
	hold := func(l []api.Version) {
		if !isHistory(l) {
			return
		}
		want := written(l)
		if b, e := version.Put(l); !bytes.Equal(b, want) || e != api.OK {
			t.Fatalf("P7.4: Put of %s is % x, %d; want % x", brief(l), b, e, want)
		}
		mustGet(t, want, l)
		if d, e := version.Digest(l); d != sha256.Sum256(want) || e != api.OK {
			t.Fatalf("P7.4: Digest of %s is %x, %d", brief(l), d, e)
		}
	}
	for _, l := range histories() {
		hold(l)
	}
	each(sound(), 4, hold)
	for _, epoch := range epochs {
		for _, key := range keys {
			hold(of(put(epoch, key)))
			hold(of(put(1, "k"), rotate(epoch, key), revoke(epoch), put(200, key)))
		}
	}
}

func TestPutAndDigestOfListsThatAreNoHistories(t *testing.T) {
	for _, l := range refused() {
		if b, e := version.Put(l); len(b) != 0 || e != api.ErrVersionForm {
			t.Fatalf("P7.4: Put of %s is % x, %d; want nothing, ErrVersionForm", brief(l), b, e)
		}
		if d, e := version.Digest(l); d != (api.Digest{}) || e != api.ErrVersionForm {
			t.Fatalf("P7.4: Digest of %s is %x, %d; want zero, ErrVersionForm", brief(l), d, e)
		}
	}
}

func TestDigestByHand(t *testing.T) {
	for _, x := range []struct {
		l    []api.Version
		want string
	}{
		{nil, "6e340b9cffb37a989ca544e6bb780a2c78901d3fb33738768511a30617afa01d"},
		{of(), "6e340b9cffb37a989ca544e6bb780a2c78901d3fb33738768511a30617afa01d"},
		{of(put(1, "k")), "42ae2f7af86562af3699b5072c19f1fba9661938b33cf41ad73f90bb60264fbd"},
		{of(put(1, "k"), revoke(2)), "46e7161d6856832558ec4487655a5ff027fe200aa4189a6abefa0ceee59b9d73"},
	} {
		if d, e := version.Digest(x.l); hex.EncodeToString(d[:]) != x.want || e != api.OK {
			t.Errorf("P7.4: Digest of %s is %x, %d; want %s", brief(x.l), d, e, x.want)
		}
	}
}

func TestGetOfTooFewBytesAndTooMany(t *testing.T) {
	for _, l := range histories() {
		b := written(l)
		for n := range len(b) {
			mustNotGet(t, b[:n])
			mustNotGet(t, b[:n:n])
		}
		for _, more := range []string{"\x00", "\x01", "\x80", "k", "\x01\x01\x01k", "\xc8\x01\x02\x01k", "\xc8\x01\x03\x00", strings.Repeat("\x00", 64)} {
			mustNotGet(t, append(bytes.Clone(b), more...))
		}
	}
	mustNotGet(t, nil)
	mustNotGet(t, []byte{})
}

func TestGetOfOtherNumbersOfVersions(t *testing.T) {
	for _, l := range histories() {
		rest := written(l)[1:]
		for n := range 256 {
			if n != len(l) {
				mustNotGet(t, append([]byte{byte(n)}, rest...))
			}
		}
		for _, front := range []string{"\xff\xff\xff\xff\x07", "\xff\xff\xff\xff\x0f", "\x80\x80\x80\x80\x80\x01", "\x90\x02", "\x80\x01"} {
			mustNotGet(t, append([]byte(front), rest...))
		}
		// The same number, but not with the fewest groups.
		mustNotGet(t, append([]byte{128 + byte(len(l)), 0}, rest...))
		mustNotGet(t, append([]byte{128 + byte(len(l)), 128, 0}, rest...))
	}
	for _, n := range []int{17, 18, 127, 128, 4096} {
		mustNotGet(t, written(spelt(1, "P"+strings.Repeat("R", n-1))))
		mustNotGet(t, written(spelt(1, strings.Repeat("PV", n))[:n]))
	}
}

func TestGetOfWhatIsNoHistory(t *testing.T) {
	for _, l := range refused() {
		mustNotGet(t, written(l))
	}
	each(some(), 3, func(l []api.Version) {
		if isHistory(l) {
			mustGet(t, written(l), l)
		} else {
			mustNotGet(t, written(l))
		}
	})
}

func TestGetOfOtherKindsEpochsAndKeys(t *testing.T) {
	mustGet(t, []byte("\x01\x01\x01\x01k"), of(put(1, "k")))
	for n := range 256 {
		if n != 1 {
			mustNotGet(t, []byte{1, 1, byte(n), 1, 'k'})
			mustNotGet(t, []byte{1, 1, 1, byte(n), 'k'})
		}
		if n < 1 || n > 127 {
			mustNotGet(t, []byte{1, byte(n), 1, 1, 'k'})
		}
		if n != 3 {
			mustNotGet(t, []byte{2, 1, 1, 1, 'k', 1, byte(n), 0})
		}
	}
	for _, b := range []string{
		"\x01\xc9\x01\x01\x01k", "\x01\xff\x01\x01\x01k", "\x01\x80\x02\x01\x01k", "\x01\xff\xff\xff\xff\x07\x01\x01k", "\x01\x00\x01\x01k", // epochs beyond the bounds
		"\x01\x81\x00\x01\x01k", "\x01\xc8\x81\x00\x01\x01k", "\x01\x81\x80\x80\x80\x00\x01\x01k", "\x01\x81\x80\x80\x80\x10\x01\x01k", "\x01\xff\xff\xff\xff\xff\x01\x01k", // of another form
		"\x01\x01\x81\x00\x01k", "\x01\x01\x81\x02\x01k", "\x01\x01\x81\x80\x80\x80\x10\x01k", "\x01\x01\x80\x01\x01k", "\x01\x01\xff\xff\xff\xff\x07\x01k", // kinds
		"\x01\x01\x01\x81\x00k", "\x01\x01\x01\x00", "\x01\x01\x01\x02k", "\x01\x01\x01\x80\x80\x04k", "\x01\x01\x01\xff\xff\xff\xff\x07k", "\x01\x01\x01\xff\xff\xff\xff\xffk", // lengths of a key
		"\x01\x01\x01\x41" + strings.Repeat("z", 65), "\x01\x01\x01\xc0\x00" + strings.Repeat("z", 64), "\x01\x01\x01\x40" + strings.Repeat("z", 63), "\x01\x01\x01\x80\x80\x04" + strings.Repeat("z", 65536),
		"\x02\x01\x01\x01k\x02\x03\x01k", "\x02\x01\x01\x01k\x02\x03\x80\x00", "\x02\x01\x01\x01k\x02\x02\x00", "\x01\x01\x03\x00", "\x01\x01\x02\x01k", // keys beside the kinds
		"\x02\x02\x01\x01k\x01\x02\x01l", "\x02\x02\x01\x01k\x00\x02\x01l", "\x02\x02\x01\x01k\x02\x01\x01l", // epochs that go back, kinds that don't follow
	} {
		mustNotGet(t, []byte(b))
	}
}

// TestNothingHasTwoEncodings: whatever Get accepts is a history, and is what Put returns for it.
func TestNothingHasTwoEncodings(t *testing.T) {
	accepted := 0
	hold := func(b []byte) {
		l, e := version.Get(b)
		if e != api.OK {
			mustNotGet(t, b)
			return
		}
		accepted++
		if again, f := version.Put(l); !isHistory(l) || !bytes.Equal(again, b) || f != api.OK {
			t.Fatalf("P7.4: % x is decoded as %s, and encoded as % x, %d", b, brief(l), again, f)
		}
	}
	for first := range 256 {
		hold([]byte{byte(first)})
		for second := range 256 {
			hold([]byte{byte(first), byte(second)})
		}
	}
	var grow func(b []byte, n int)
	grow = func(b []byte, n int) {
		hold(b)
		if n > 0 {
			for _, c := range []byte{0, 1, 2, 3, 107, 128, 129, 200} {
				grow(append(bytes.Clone(b), c), n-1)
			}
		}
	}
	grow(nil, 6)
	grow([]byte("\x02\x01\x01\x01k"), 5)
	for _, l := range histories() {
		b := written(l)
		for i := range b {
			for _, bit := range []byte{1, 2, 4, 8, 64, 128, 255} {
				turned := bytes.Clone(b)
				turned[i] ^= bit
				hold(turned)
			}
		}
	}
	if accepted < 10000 {
		t.Fatalf("only %d byte strings were accepted", accepted)
	}
}
