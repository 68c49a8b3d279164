package version_test

import (
	"bytes"
	"slices"
	"testing"

	"tabellion/api"
	"tabellion/version"
)

// foreign is a version that is no part of any list here.
var foreign = api.Version{Epoch: 77, Kind: 77, Key: "foreign"}

// roomy returns l with room behind its end, and the whole memory, in which foreign versions follow.
func roomy(l []api.Version) (whole, front []api.Version) {
	whole = append(slices.Clone(l), slices.Repeat(of(foreign), 20)...)
	return whole, whole[:len(l)]
}

// answers calls f twice with l and overwrites, up to its capacity, one answer, and after that what was handed in. It fails if anything else changes.
func answers(t *testing.T, name string, l []api.Version, f func(l []api.Version) []api.Version) {
	t.Helper()
	whole, front := roomy(l)
	before := slices.Clone(whole)
	first, second := f(front), f(front)
	want := slices.Clone(first)
	if !slices.Equal(whole, before) {
		t.Fatalf("R2: %s of %s changed what was handed in", name, brief(l))
	}
	overwrite(second)
	if !slices.Equal(first, want) || !slices.Equal(whole, before) {
		t.Fatalf("R2: an answer of %s of %s shares memory with another one or with what was handed in", name, brief(l))
	}
	overwrite(whole)
	if !slices.Equal(first, want) {
		t.Fatalf("R2: an answer of %s of %s changes with what was handed in", name, brief(l))
	}
	copy(whole, before)
	overwrite(first)
	if !slices.Equal(whole, before) {
		t.Fatalf("R2: an answer of %s of %s shares memory with what was handed in", name, brief(l))
	}
	if again := f(front); !slices.Equal(again, want) {
		t.Fatalf("R2: %s of %s is %s, and then %s", name, brief(l), brief(want), brief(again))
	}
}

// overwrite replaces all versions of l, and all for which it has room.
func overwrite(l []api.Version) {
	for i := range l[:cap(l)] {
		l[:cap(l)][i] = api.Version{Epoch: 99, Kind: 99, Key: "overwritten"}
	}
}

func TestNextAndAtKeepNothing(t *testing.T) {
	for _, l := range append(histories(), refused()...) {
		if len(l) > 20 {
			continue
		}
		for _, v := range of(put(200, "k"), rotate(200, "l"), revoke(200)) {
			answers(t, "Next", l, func(l []api.Version) []api.Version { m, _ := version.Next(l, v); return m })
		}
		for _, epoch := range []int{0, 1, 50, 100, 200, 201} {
			answers(t, "At", l, func(l []api.Version) []api.Version { return version.At(l, epoch) })
		}
	}
}

// TestTwoContinuations: two versions that follow one history don't overwrite each other.
func TestTwoContinuations(t *testing.T) {
	for n := 1; n < 16; n++ {
		_, l := roomy(rotated(n))
		one, _ := version.Next(l, rotate(5, "one"))
		two, _ := version.Next(l, rotate(5, "two"))
		if one[n].Key != "one" || two[n].Key != "two" || l[:n+1][n] != foreign {
			t.Fatalf("R2: %s and %s", brief(one), brief(two))
		}
		whole := version.At(one, 200)
		part := version.At(whole, 4)
		if more, _ := version.Next(part, revoke(6)); len(more) != n+1 || whole[n].Key != "one" || one[n].Key != "one" {
			t.Fatalf("R2: %s grew into %s", brief(part), brief(whole))
		}
		_ = append(part, foreign)
		if whole[n].Key != "one" || one[n].Key != "one" {
			t.Fatalf("R2: what At returned has room in another list: %s", brief(whole))
		}
	}
}

func TestTheOthersChangeNothing(t *testing.T) {
	for _, l := range append(histories(), refused()...) {
		whole, front := roomy(l)
		before := slices.Clone(whole)
		version.Check(front)
		version.Active(front)
		version.Put(front)
		version.Digest(front)
		if !slices.Equal(whole, before) {
			t.Fatalf("R2: what was handed in was changed: %s", brief(l))
		}
	}
}

func TestPutAndGetKeepNothing(t *testing.T) {
	for _, l := range histories() {
		whole, front := roomy(l)
		one, _ := version.Put(front)
		two, _ := version.Put(front)
		want := bytes.Clone(one)
		clear(two[:cap(two)])
		overwrite(whole)
		if !bytes.Equal(one, want) || !bytes.Equal(want, written(l)) {
			t.Fatalf("R2: what Put returned of %s shares memory with another answer or with what was handed in", brief(l))
		}

		room := append(bytes.Clone(want), "\x01\x01\x01k\x01\x02\x01l"...)
		old := bytes.Clone(room)
		first, _ := version.Get(room[:len(want)]) // doesn't read what lies behind it
		second, _ := version.Get(room[:len(want)])
		if !bytes.Equal(room, old) {
			t.Fatalf("R2: Get of % x changed what was handed in", want)
		}
		overwrite(second)
		clear(room)
		if !slices.Equal(first, l) {
			t.Fatalf("R2: what Get returned is %s; want %s", brief(first), brief(l))
		}
	}
}
