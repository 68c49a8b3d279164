package version_test

import (
	"slices"
	"testing"

	"tabellion/api"
	"tabellion/version"
)

func TestNextReturnsAHistoryThatBeginsWithThePrevious(t *testing.T) {
	grown := 0
	for _, l := range histories() {
		for _, v := range slices.Concat(sound(), some()) {
			m, e := version.Next(l, v)
			if e != api.OK {
				continue
			}
			grown++
			if version.Check(m) != api.OK || len(m) != len(l)+1 || !slices.Equal(m[:len(l)], l) || m[len(l)] != v {
				t.Fatalf("P7.5: Next of %s and %s is %s", brief(l), brief(of(v)), brief(m))
			}
		}
	}
	if grown < 100 {
		t.Fatalf("only %d histories were grown", grown)
	}
}

// TestNextGrowsEveryHistory: version by version, Next accepts every history from the empty one on.
func TestNextGrowsEveryHistory(t *testing.T) {
	for _, l := range histories() {
		var grown []api.Version
		for _, v := range l {
			m, e := version.Next(grown, v)
			if e != api.OK {
				t.Fatalf("P7.5: %s isn't grown at version %d: %d", brief(l), len(grown), e)
			}
			grown = m
		}
		if !slices.Equal(grown, l) {
			t.Fatalf("P7.5: %s is grown as %s", brief(l), brief(grown))
		}
	}
}

func TestAtOfAHistoryIsAHistory(t *testing.T) {
	for _, l := range histories() {
		for _, epoch := range askedEpochs {
			m := version.At(l, epoch)
			if e := version.Check(m); e != api.OK {
				t.Fatalf("P7.5: At of %s and %d is %s, which Check refuses: %d", brief(l), epoch, brief(m), e)
			}
			if _, e := version.Digest(m); e != api.OK {
				t.Fatalf("P7.5: At of %s and %d is %s, which has no digest: %d", brief(l), epoch, brief(m), e)
			}
			if again := version.At(m, epoch); !slices.Equal(again, m) {
				t.Fatalf("P7.5: At of %s and %d is %s", brief(m), epoch, brief(again))
			}
		}
	}
}

func TestAtStaysWhenVersionsWithGreaterEpochsAreAdded(t *testing.T) {
	added := 0
	for _, l := range histories() {
		for n := range l {
			for epoch := 0; epoch < l[n].Epoch; epoch++ {
				if n > 0 && epoch < l[n-1].Epoch-1 {
					continue
				}
				before, after := version.At(l[:n], epoch), version.At(l[:n+1], epoch)
				if !slices.Equal(before, after) {
					t.Fatalf("P7.5: At %d is %s, and %s when a version of epoch %d is added", epoch, brief(before), brief(after), l[n].Epoch)
				}
				if whole := version.At(l, epoch); !slices.Equal(before, whole) {
					t.Fatalf("P7.5: At %d is %s, and %s when versions from epoch %d on are added", epoch, brief(before), brief(whole), l[n].Epoch)
				}
				added++
			}
		}
	}
	if added < 1000 {
		t.Fatalf("only %d additions were tried", added)
	}
}
