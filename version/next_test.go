package version_test

import (
	"slices"
	"strings"
	"testing"

	"tabellion/api"
	"tabellion/version"
)

// mustNext fails if Next(l, v) isn't what is wanted.
func mustNext(t *testing.T, l []api.Version, v api.Version, want []api.Version, e api.Errno) {
	t.Helper()
	if m, f := version.Next(l, v); !slices.Equal(m, want) || f != e {
		t.Fatalf("P7.2: Next of %s and %s is %s, %d; want %s, %d", brief(l), brief(of(v)), brief(m), f, brief(want), e)
	}
}

// mustNotNext fails if Next(l, v) isn't refused with e.
func mustNotNext(t *testing.T, l []api.Version, v api.Version, e api.Errno) {
	t.Helper()
	mustNext(t, l, v, nil, e)
}

func TestNext(t *testing.T) {
	p, r, v := put(1, "k"), rotate(2, "l"), revoke(2)
	mustNext(t, nil, p, of(p), api.OK)
	mustNotNext(t, nil, r, api.ErrVersionNone)
	mustNotNext(t, nil, v, api.ErrVersionNone)
	mustNotNext(t, of(p), p, api.ErrVersionThere)
	mustNext(t, of(p), r, of(p, r), api.OK)
	mustNext(t, of(p), v, of(p, v), api.OK)
	mustNotNext(t, of(p, r), put(2, "m"), api.ErrVersionThere)
	mustNext(t, of(p, r), r, of(p, r, r), api.OK)
	mustNext(t, of(p, r), v, of(p, r, v), api.OK)
	mustNext(t, of(p, v), put(2, "m"), of(p, v, put(2, "m")), api.OK)
	mustNotNext(t, of(p, v), r, api.ErrVersionNone)
	mustNotNext(t, of(p, v), v, api.ErrVersionNone)
	mustNext(t, of(p, v), put(200, "k"), of(p, v, put(200, "k")), api.OK)
}

func TestNextOfEpochs(t *testing.T) {
	for _, last := range epochs {
		for _, epoch := range slices.Concat(epochs, noEpochs) {
			want := api.OK
			if epoch < last || epoch > 200 {
				want = api.ErrVersionForm
			}
			for _, x := range []struct {
				l []api.Version
				v api.Version
			}{
				{of(put(last, "k")), rotate(epoch, "l")}, {of(put(last, "k")), revoke(epoch)}, {of(put(1, "k"), rotate(last, "l")), rotate(epoch, "m")}, {of(put(1, "k"), revoke(last)), put(epoch, "m")},
			} {
				if want == api.OK {
					mustNext(t, x.l, x.v, append(slices.Clone(x.l), x.v), want)
				} else {
					mustNotNext(t, x.l, x.v, want)
				}
			}
		}
	}
}

func TestNextOfVersionsThatAreNotValid(t *testing.T) {
	var versions []api.Version
	for _, kind := range noKinds {
		versions = append(versions, api.Version{Epoch: 3, Kind: kind}, api.Version{Epoch: 3, Kind: kind, Key: "k"})
	}
	for _, epoch := range noEpochs {
		versions = append(versions, put(epoch, "k"), rotate(epoch, "k"), revoke(epoch))
	}
	for _, key := range noKeys {
		versions = append(versions, put(3, key), rotate(3, key))
	}
	for _, key := range append(keys, noKeys[1:]...) {
		versions = append(versions, api.Version{Epoch: 3, Kind: api.VerRevoke, Key: key})
	}
	for _, v := range versions {
		for _, name := range []string{"", "P", "PR", "PV", "P" + strings.Repeat("R", 15), strings.Repeat("PV", 8)} {
			mustNotNext(t, spelt(1, name), v, api.ErrVersionForm)
		}
	}
}

func TestNextOfListsThatAreNoHistories(t *testing.T) {
	for _, l := range refused() {
		for _, v := range of(put(200, "k"), rotate(200, "k"), revoke(200), put(1, "k"), put(0, ""), api.Version{}) {
			mustNotNext(t, l, v, api.ErrVersionForm)
		}
	}
}

// rotated returns a history of n versions with an active key, and lapsed one without, if n is not 1; of more than 16, none is a history.
func rotated(n int) []api.Version {
	return spelt(4, "P"+strings.Repeat("R", n-1))
}

func lapsed(n int) []api.Version {
	return spelt(4, "P"+strings.Repeat("R", n%2)+"V"+strings.Repeat("PV", n/2-1))
}

func TestNextOfManyVersions(t *testing.T) {
	for n := 2; n <= 20; n++ {
		active, none := rotated(n), lapsed(n)
		if len(active) != n || len(none) != n {
			t.Fatalf("%d and %d versions; want %d", len(active), len(none), n)
		}
		want := api.OK
		if n == 16 {
			want = api.ErrLimit
		} else if n > 16 {
			want = api.ErrVersionForm
		}
		for _, x := range []struct {
			l []api.Version
			v api.Version
		}{
			{active, rotate(4, "n")}, {active, revoke(5)}, {none, put(4, "n")}, {none, put(200, "n")},
		} {
			if want == api.OK {
				mustNext(t, x.l, x.v, append(slices.Clone(x.l), x.v), want)
			} else {
				mustNotNext(t, x.l, x.v, want)
			}
		}
	}
}

// TestNextOfSeveralErrors: each error that applies comes before those that the promise names later.
func TestNextOfSeveralErrors(t *testing.T) {
	for _, x := range []struct {
		name string
		l    []api.Version
		v    api.Version
		e    api.Errno
	}{
		{"no history, and there", of(rotate(1, "l")), put(1, "k"), api.ErrVersionForm},
		{"no history, and none", of(put(1, "k"), revoke(1), revoke(1)), rotate(1, "k"), api.ErrVersionForm},
		{"no history, and limit", spelt(1, "P"+strings.Repeat("R", 16)), rotate(1, "k"), api.ErrVersionForm},
		{"not valid, and there", of(put(1, "k")), put(1, ""), api.ErrVersionForm},
		{"not valid, and none", nil, rotate(0, "k"), api.ErrVersionForm},
		{"not valid, and none", nil, api.Version{Epoch: 1, Kind: api.VerRevoke, Key: "k"}, api.ErrVersionForm},
		{"no kind, and none", nil, api.Version{Epoch: 1, Key: "k"}, api.ErrVersionForm},
		{"back, and there", of(put(2, "k")), put(1, "l"), api.ErrVersionForm},
		{"back, and none", of(put(1, "k"), revoke(2)), rotate(1, "l"), api.ErrVersionForm},
		{"back, and limit", spelt(2, "P"+strings.Repeat("R", 15)), revoke(1), api.ErrVersionForm},
		{"there, and limit", spelt(2, "P"+strings.Repeat("R", 15)), put(2, "k"), api.ErrVersionThere},
		{"none, and limit", spelt(2, strings.Repeat("PV", 8)), rotate(2, "k"), api.ErrVersionNone},
		{"none, and limit", spelt(2, strings.Repeat("PV", 8)), revoke(2), api.ErrVersionNone},
		{"limit", spelt(2, strings.Repeat("PV", 8)), put(2, "k"), api.ErrLimit},
	} {
		if m, e := version.Next(x.l, x.v); len(m) > 0 || e != x.e {
			t.Errorf("P7.2: %s: Next of %s and %s is %s, %d; want %d", x.name, brief(x.l), brief(of(x.v)), brief(m), e, x.e)
		}
	}
}

// TestNextOfAll holds Next against the chapter's words, for all lists of a few versions, and for long ones.
func TestNextOfAll(t *testing.T) {
	seen := map[api.Errno]int{}
	hold := func(versions []api.Version) func([]api.Version) {
		return func(l []api.Version) {
			for _, v := range versions {
				want, e := nextOf(l, v)
				mustNext(t, l, v, want, e)
				seen[e]++
			}
		}
	}
	each(some(), 3, hold(some()))
	each(sound(), 4, hold(sound()))
	for _, l := range slices.Concat(histories(), refused()) {
		hold(slices.Concat(some(), sound()))(l)
	}
	for _, e := range []api.Errno{api.OK, api.ErrVersionForm, api.ErrVersionThere, api.ErrVersionNone, api.ErrLimit} {
		if seen[e] < 50 {
			t.Errorf("only %d of the answers are %d", seen[e], e)
		}
	}
}
