package version_test

import (
	"math"
	"slices"
	"strings"
	"testing"

	"tabellion/api"
	"tabellion/version"
)

// askedEpochs are those at which what At returns changes, those beside them, and any others.
var askedEpochs = []int{math.MinInt, math.MinInt32, -200, -1, 0, 1, 2, 3, 4, 5, 50, 51, 100, 199, 200, 201, 202, 1000, math.MaxInt32, math.MaxInt}

// mustAt fails if At(l, epoch) isn't what is wanted.
func mustAt(t *testing.T, l []api.Version, epoch int, want []api.Version) {
	t.Helper()
	if m := version.At(l, epoch); !slices.Equal(m, want) {
		t.Fatalf("P7.3: At of %s and %d is %s; want %s", brief(l), epoch, brief(m), brief(want))
	}
}

func TestAt(t *testing.T) {
	p, r := put(1, "k"), rotate(2, "l")
	mustAt(t, of(p, r), 1, of(p))
	mustAt(t, of(p, r), 9, of(p, r))
	mustAt(t, of(p, r), 2, of(p, r))
	mustAt(t, of(p, r), 0, nil)

	l := of(put(3, "k"), rotate(3, "l"), revoke(5), put(5, "m"), rotate(5, "n"), rotate(200, "o"))
	for _, x := range []struct{ epoch, n int }{
		{math.MinInt, 0}, {-1, 0}, {0, 0}, {1, 0}, {2, 0}, {3, 2}, {4, 2}, {5, 5}, {6, 5}, {100, 5}, {199, 5}, {200, 6}, {201, 6}, {math.MaxInt32, 6}, {math.MaxInt, 6},
	} {
		mustAt(t, l, x.epoch, l[:x.n])
	}
}

func TestAtOfNothing(t *testing.T) {
	for _, epoch := range askedEpochs {
		mustAt(t, nil, epoch, nil)
		mustAt(t, of(), epoch, nil)
	}
}

func TestAtOfListsThatAreNoHistories(t *testing.T) {
	for _, l := range refused() {
		for _, epoch := range askedEpochs {
			mustAt(t, l, epoch, nil)
		}
	}
	// The first versions would be a history, but l isn't one.
	mustAt(t, of(put(1, "k"), rotate(2, "l"), put(3, "m")), 1, nil)
	mustAt(t, of(put(1, "k"), rotate(2, "l"), rotate(201, "m")), 2, nil)
	mustAt(t, of(put(1, "k"), rotate(3, "l"), rotate(2, "m")), 1, nil)
	mustAt(t, spelt(1, "P"+strings.Repeat("R", 16)), 1, nil)
}

// TestAtOfAll holds At against the chapter's words, for all lists of a few versions, and for long ones.
func TestAtOfAll(t *testing.T) {
	parts := 0
	hold := func(l []api.Version) {
		for _, epoch := range askedEpochs {
			want := atOf(l, epoch)
			mustAt(t, l, epoch, want)
			if 0 < len(want) && len(want) < len(l) {
				parts++
			}
		}
	}
	each(some(), 3, hold)
	each(sound(), 4, hold)
	for _, l := range slices.Concat(histories(), refused()) {
		hold(l)
	}
	if parts < 1000 {
		t.Fatalf("only %d of the answers are a part of the list", parts)
	}
}
