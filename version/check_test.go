package version_test

import (
	"slices"
	"strings"
	"testing"

	"tabellion/api"
	"tabellion/version"
)

// mustCheck fails if Check(l) or Active(l) isn't what a history, or another list, has.
func mustCheck(t *testing.T, l []api.Version, history bool) {
	t.Helper()
	want := api.ErrVersionForm
	if history {
		want = api.OK
	}
	if e := version.Check(l); e != want {
		t.Fatalf("P7.1: Check of %s is %d; want %d", brief(l), e, want)
	}
	if k, ok := version.Active(l); !history && (k != "" || ok) {
		t.Fatalf("P7.1: Active of %s, which is no history, is %q, %t", brief(l), k, ok)
	}
}

// mustActive fails if Active(l) isn't the key, or none if that is empty.
func mustActive(t *testing.T, l []api.Version, key string) {
	t.Helper()
	if k, ok := version.Active(l); k != key || ok != (key != "") {
		t.Fatalf("P7.1: Active of %s is %q, %t; want %q", brief(l), k, ok, key)
	}
}

func TestCheckOfNothing(t *testing.T) {
	mustCheck(t, nil, true)
	mustCheck(t, of(), true)
	mustCheck(t, of(put(1, "k"))[:0], true)
}

func TestCheckOfOneVersion(t *testing.T) {
	for _, epoch := range epochs {
		for _, key := range keys {
			mustCheck(t, of(put(epoch, key)), true)
			mustCheck(t, of(rotate(epoch, key)), false)
			mustCheck(t, of(api.Version{Epoch: epoch, Kind: api.VerRevoke, Key: key}), false)
		}
		for _, key := range noKeys {
			mustCheck(t, of(put(epoch, key)), false)
		}
		mustCheck(t, of(revoke(epoch)), false)
		for _, kind := range noKinds {
			mustCheck(t, of(api.Version{Epoch: epoch, Kind: kind}), false)
			mustCheck(t, of(api.Version{Epoch: epoch, Kind: kind, Key: "k"}), false)
		}
	}
	for _, epoch := range noEpochs {
		mustCheck(t, of(put(epoch, "k")), false)
	}
}

// TestCheckOfTheSecondVersion: the bounds of a version hold behind another one too.
func TestCheckOfTheSecondVersion(t *testing.T) {
	first := put(1, "k")
	for _, epoch := range epochs {
		for _, key := range keys {
			mustCheck(t, of(first, rotate(epoch, key)), true)
			mustCheck(t, of(first, revoke(epoch), put(epoch, key)), true)
			mustCheck(t, of(first, api.Version{Epoch: epoch, Kind: api.VerRevoke, Key: key}), false)
		}
		for _, key := range noKeys {
			mustCheck(t, of(first, rotate(epoch, key)), false)
			mustCheck(t, of(first, revoke(epoch), put(epoch, key)), false)
		}
		for _, kind := range noKinds {
			mustCheck(t, of(first, api.Version{Epoch: epoch, Kind: kind}), false)
			mustCheck(t, of(first, api.Version{Epoch: epoch, Kind: kind, Key: "k"}), false)
			mustCheck(t, of(first, revoke(epoch), api.Version{Epoch: epoch, Kind: kind, Key: "k"}), false)
		}
	}
	for _, epoch := range noEpochs {
		mustCheck(t, of(first, rotate(epoch, "l")), false)
		mustCheck(t, of(first, revoke(epoch)), false)
		mustCheck(t, of(first, revoke(1), put(epoch, "l")), false)
	}
}

func TestCheckOfEveryKindBehindEveryKind(t *testing.T) {
	for name, history := range map[string]bool{
		"P": true, "R": false, "V": false, "?": false,
		"PP": false, "PR": true, "PV": true, "P?": false,
		"PRP": false, "PRR": true, "PRV": true, "PR?": false,
		"PVP": true, "PVR": false, "PVV": false, "PV?": false,
		"PVPP": false, "PVPR": true, "PVPV": true, "PVPVP": true, "PVPRVP": true, "PVPRVR": false,
		"RV": false, "RR": false, "RP": false, "VP": false, "VPR": false, "?P": false, "?PR": false,
		"PRVPRRVPVPRV": true, "PRVPRRVPVPRVV": false, "PRVPRRPVPRV": false,
	} {
		mustCheck(t, spelt(3, name), history)
	}
}

func TestCheckOfEpochs(t *testing.T) {
	for _, x := range []struct {
		epochs  []int
		history bool
	}{
		{[]int{1, 1}, true}, {[]int{1, 2}, true}, {[]int{2, 1}, false}, {[]int{1, 200}, true}, {[]int{200, 200}, true}, {[]int{200, 199}, false}, {[]int{200, 1}, false}, {[]int{200, 201}, false},
		{[]int{0, 1}, false}, {[]int{0, 0}, false}, {[]int{-1, 1}, false}, {[]int{1, 0}, false},
		{[]int{5, 5, 5, 5}, true}, {[]int{5, 5, 5, 4}, false}, {[]int{5, 5, 4, 5}, false}, {[]int{5, 4, 5, 5}, false}, {[]int{4, 5, 5, 5}, true}, {[]int{1, 9, 8, 9}, false}, {[]int{8, 9, 8}, false},
	} {
		var l, m []api.Version
		for i, epoch := range x.epochs {
			l = append(l, rotate(epoch, "l"))
			m = append(m, revoke(epoch))
			if i%2 == 0 {
				m[i] = put(epoch, "k")
			}
		}
		l[0] = put(x.epochs[0], "k")
		mustCheck(t, l, x.history)
		mustCheck(t, m, x.history)
	}
}

func TestCheckOfManyVersions(t *testing.T) {
	for n := 1; n < 40; n++ {
		mustCheck(t, spelt(7, "P"+strings.Repeat("R", n-1)), n <= 16)
		mustCheck(t, spelt(7, strings.Repeat("PV", n))[:n], n <= 16)
		mustCheck(t, spelt(7, strings.Repeat("PRV", n))[:n], n <= 16)
	}
	mustCheck(t, spelt(7, "P"+strings.Repeat("R", 100000)), false)
	rising := of(put(185, "k"))
	for epoch := 186; epoch <= 200; epoch++ {
		rising = append(rising, rotate(epoch, "l"))
	}
	mustCheck(t, rising, true)
}

func TestActive(t *testing.T) {
	for _, x := range []struct {
		l   []api.Version
		key string
	}{
		{nil, ""}, {of(), ""},
		{of(put(1, "k")), "k"}, {of(put(1, "k"), rotate(2, "l")), "l"}, {of(put(1, "k"), revoke(2)), ""},
		{of(put(1, "k"), rotate(1, "l"), revoke(1)), ""}, {of(put(1, "k"), revoke(2), put(2, "m")), "m"}, {of(put(1, "k"), revoke(2), put(2, "k"), rotate(9, "o")), "o"},
		{of(put(200, "\x00")), "\x00"}, {of(put(200, "k"), rotate(200, "k")), "k"},
		{of(rotate(2, "l")), ""}, {of(put(1, "k"), put(1, "l")), ""}, {of(put(2, "k"), rotate(1, "l")), ""}, {of(put(201, "k")), ""}, {of(put(1, "k"), rotate(1, "")), ""},
	} {
		mustActive(t, x.l, x.key)
	}
	for _, key := range keys {
		mustActive(t, of(put(1, key)), key)
		mustActive(t, of(put(1, "k"), rotate(1, key)), key)
		mustActive(t, of(put(1, key), revoke(1)), "")
	}
	mustActive(t, spelt(1, "P"+strings.Repeat("R", 15)), "l")
	mustActive(t, spelt(1, "P"+strings.Repeat("R", 16)), "")
}

// TestCheckAndActiveOfAll holds both against the chapter's words, for all lists of a few versions, and for long ones.
func TestCheckAndActiveOfAll(t *testing.T) {
	found := 0
	hold := func(l []api.Version) {
		if isHistory(l) {
			found++
		}
		mustCheck(t, l, isHistory(l))
		key, _ := activeOf(l)
		mustActive(t, l, key)
	}
	each(some(), 4, hold)
	each(sound(), 5, hold)
	for _, l := range slices.Concat(histories(), refused()) {
		hold(l)
	}
	if found < 900 {
		t.Fatalf("only %d of the lists are histories", found)
	}
}
