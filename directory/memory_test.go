package directory_test

import (
	"reflect"
	"slices"
	"testing"

	"tabellion/api"
	"tabellion/directory"
)

// roomy returns l with room behind its end, in which x is, so that an append to l would be seen.
func roomy[T any](l []T, x T) []T {
	whole := append(slices.Clone(l), x, x, x)
	return whole[:len(l)]
}

// The foreign things are no part of any directory here.
var (
	foreignVersion = api.Version{Epoch: 77, Kind: 77, Key: "foreign"}
	foreignHead    = api.Head{Epoch: 77, Root: api.Digest{7}, Prev: api.Digest{7}}
	foreignSession = api.Session{Client: 77, Seq: 77, Code: 77, Epoch: 77}
)

// spacious returns a copy of d all of whose lists have room behind their ends.
func spacious(d api.Directory) api.Directory {
	d = cloned(d)
	for i, u := range d.Users {
		d.Users[i].Versions = roomy(u.Versions, foreignVersion)
	}
	d.Users = roomy(d.Users, api.User{Name: "foreign", Versions: []api.Version{foreignVersion}})
	d.Heads, d.Sessions = roomy(d.Heads, foreignHead), roomy(d.Sessions, foreignSession)
	return d
}

// grown returns a copy of d all of whose lists are grown to their capacities: with what lies behind their ends.
func grown(d api.Directory) api.Directory {
	d.Users, d.Heads, d.Sessions = d.Users[:cap(d.Users)], d.Heads[:cap(d.Heads)], d.Sessions[:cap(d.Sessions)]
	d = cloned(d)
	for i, u := range d.Users {
		d.Users[i].Versions = slices.Clone(u.Versions[:cap(u.Versions)])
	}
	return d
}

// overwrite replaces all that the lists of d have, up to their capacities.
func overwrite(d api.Directory) {
	for _, u := range d.Users[:cap(d.Users)] {
		fill(u.Versions, foreignVersion)
	}
	fill(d.Users, api.User{Name: "overwritten"})
	fill(d.Heads, foreignHead)
	fill(d.Sessions, foreignSession)
}

// fill makes x all elements of l, up to its capacity.
func fill[T any](l []T, x T) {
	for i := range l[:cap(l)] {
		l[:cap(l)][i] = x
	}
}

// span is the memory of a list, up to its capacity.
type span struct{ from, to uintptr }

// spans returns those of all lists in v.
func spans(v reflect.Value) []span {
	var list []span
	switch v.Kind() {
	case reflect.Slice:
		if v.Cap() > 0 {
			list = append(list, span{v.Pointer(), v.Pointer() + uintptr(v.Cap())*v.Type().Elem().Size()})
		}
		if v.Type().Elem().Kind() == reflect.Struct {
			for i := range v.Len() {
				list = append(list, spans(v.Index(i))...)
			}
		}
	case reflect.Struct:
		for i := range v.NumField() {
			list = append(list, spans(v.Field(i))...)
		}
	}
	return list
}

// mustBeApart fails if two lists in the values share memory.
func mustBeApart(t *testing.T, values ...any) {
	t.Helper()
	var list []span
	for _, x := range values {
		list = append(list, spans(reflect.ValueOf(x))...)
	}
	slices.SortFunc(list, func(a, b span) int {
		if a.from < b.from {
			return -1
		}
		return 1
	})
	for i := 1; i < len(list); i++ {
		if list[i-1].to > list[i].from {
			t.Fatal("R2: two lists share memory")
		}
	}
}

// TestApplyKeepsAndChangesNothing overwrites what was handed in, and what came out, and looks at the other.
func TestApplyKeepsAndChangesNothing(t *testing.T) {
	for _, x := range append(samples(), spoilt()[:6]...) {
		for _, c := range append(commands()[:25], noCommands()[:5]...) {
			d := spacious(x.d)
			before := grown(d)
			first, e := directory.Apply(d, c)
			second, _ := directory.Apply(d, c)
			third, _ := directory.Apply(first, c)
			mustBeApart(t, d, first, second, third)
			want, again := cloned(first), cloned(third)
			if !same(grown(d), before) || !same(first, second) {
				t.Fatalf("R2: Apply of %+v changed what was handed in, %s", c, x.name)
			}
			overwrite(second)
			if !same(grown(d), before) || !same(first, want) || !same(third, again) {
				t.Fatalf("R2: an answer of Apply of %+v to %s shares memory with another one or with what was handed in", c, x.name)
			}
			overwrite(d)
			if !same(first, want) || !same(third, again) {
				t.Fatalf("R2: an answer of Apply of %+v to %s changes with what was handed in", c, x.name)
			}
			overwrite(first)
			if !same(third, again) {
				t.Fatalf("R2: an answer of Apply of %+v to %s changes with an earlier one", c, x.name)
			}
			if got, g := directory.Apply(x.d, c); !same(got, want) || g != e {
				t.Fatalf("R2: Apply of %+v to %s is %s, and then %s", c, x.name, brief(want), brief(got))
			}
		}
	}
}

// TestApplyAheadOfAndBehind: the users, heads and sessions ahead of and behind what is changed stay as they were, in what was handed in as in what comes out.
func TestApplyAheadOfAndBehind(t *testing.T) {
	d := spacious(rich())
	before := grown(d)
	for _, name := range names {
		for _, client := range []int{1, 2, 3, 4} {
			d.Sessions[1].Seq, before.Sessions[1].Seq = 5, 5
			mustApply(t, d, put(client, 999999, name, "k"))
			mustApply(t, d, rotate(client, 999999, name, "k"))
			mustApply(t, d, revoke(client, 999999, name))
			if !same(grown(d), before) {
				t.Fatalf("R2: a command for %q of client %d changes what was handed in", name, client)
			}
		}
	}
	mustApply(t, d, seal(5))
	mustApply(t, d, intent(3, rootAt(d, 3)))
	if !same(grown(d), before) {
		t.Fatal("R2: a command changes what was handed in")
	}
}

// TestTwoContinuations: two commands that are applied to one directory don't overwrite what came of each other.
func TestTwoContinuations(t *testing.T) {
	base := mustGet(t, rich(), put(3, 1, "m", "k"), seal(5), intent(3, rootAt(rich(), 3)))
	var all []api.Directory
	var wanted []api.Directory
	for _, c := range []api.Command{put(1, 100, "n", "one"), put(1, 100, "n", "two"), put(1, 100, "l", "k"), rotate(1, 100, "m", "one"), rotate(1, 100, "m", "two"), revoke(1, 100, "m"), seal(6), intent(4, rootAt(base, 4))} {
		got, e := mustApply(t, base, c)
		if e != api.OK {
			t.Fatalf("Apply of %+v is %d", c, e)
		}
		all, wanted = append(all, got), append(wanted, cloned(got))
	}
	for i := range all {
		if !same(all[i], wanted[i]) {
			t.Errorf("R2: a later answer changes an earlier one, %d", i)
		}
	}
}

func TestTheOthersKeepAndChangeNothing(t *testing.T) {
	for _, x := range append(samples(), spoilt()...) {
		d := spacious(x.d)
		before := grown(d)
		for _, epoch := range edgesOf(d) {
			directory.Check(d)
			directory.Root(d, epoch)
			for _, name := range append(asked(d), "") {
				l, p, _ := directory.Look(d, name, epoch)
				m, q, _ := directory.Look(d, name, epoch)
				mustBeApart(t, d, l, p, m, q)
				want, siblings := slices.Clone(l), slices.Clone(p.Siblings)
				fill(m, foreignVersion)
				fill(q.Siblings, api.Digest{7})
				if !same(grown(d), before) || !slices.Equal(l, want) || !slices.Equal(p.Siblings, siblings) {
					t.Fatalf("R2: Look for %q at %d in %s changed what was handed in, or shares memory with it or with another answer", name, epoch, x.name)
				}
			}
		}
	}
}

// TestLookBeforeAndAfterAChange: a history that was returned doesn't change with the directory.
func TestLookBeforeAndAfterAChange(t *testing.T) {
	d := spacious(rich())
	l, x, _ := directory.Look(d, "c", 4)
	want, siblings := slices.Clone(l), slices.Clone(x.Siblings)
	if len(want) != 5 || len(siblings) == 0 {
		t.Fatalf("P10.3: Look for c at 4 is %v, %v", l, x)
	}
	overwrite(d)
	if !slices.Equal(l, want) || !slices.Equal(x.Siblings, siblings) {
		t.Errorf("R2: what Look returned changes with what was handed in: %v, %v", l, x)
	}
}
