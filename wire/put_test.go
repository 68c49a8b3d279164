package wire_test

import (
	"math"
	"reflect"
	"strings"
	"testing"

	"tabellion/api"
	"tabellion/wire"
)

// noCounts are numbers that are no counts.
var noCounts = []int{-1, -2, -127, -128, math.MinInt32, math.MinInt, math.MaxInt, math.MaxInt32 + 1, 1 << 32, 1<<32 + 1}

func TestPutOfSamples(t *testing.T) {
	for _, s := range structures() {
		for _, x := range samples(s) {
			if !holdPut(t, s, x) {
				t.Fatalf("the reference refuses %s", brief(x))
			}
		}
	}
}

// atEach calls f with each place of that sort, in a structure of its own with lists of two elements.
func atEach(s structure, sort string, f func(p place, whole reflect.Value)) {
	for i, p := range places(s.name, s.name, counting(2).made(s)) {
		if strings.HasPrefix(p.code, sort) {
			whole := counting(2).made(s)
			f(places(s.name, s.name, whole)[i], whole)
		}
	}
}

func TestNumbers(t *testing.T) {
	for _, s := range structures() {
		atEach(s, "N", func(p place, whole reflect.Value) {
			for _, n := range numbers {
				p.v.SetInt(int64(n))
				if !holdPut(t, s, whole.Interface()) {
					t.Fatalf("the reference refuses %s as %d", p.path, n)
				}
			}
			for _, n := range noCounts {
				p.v.SetInt(int64(n))
				mustNotPut(t, s, whole.Interface(), api.ErrArg)
			}
		})
	}
}

// TestKinds: a kind that is none of the named ones is encoded all the same.
func TestKinds(t *testing.T) {
	for n := range 300 {
		for _, x := range []any{
			api.Command{Kind: api.CmdKind(n)},
			api.Entry{Kind: api.EntryKind(n), Command: api.Command{Kind: api.CmdKind(n + 1)}},
			api.Record{Kind: api.RecordKind(n)},
			api.Directory{Users: []api.User{{Versions: []api.Version{{Kind: api.VerKind(n)}}}}, Sessions: []api.Session{{Code: api.Errno(n)}}},
		} {
			if s := named(value(x).Type().Name()); !holdPut(t, s, x) {
				t.Fatalf("the reference refuses %s", brief(x))
			}
		}
	}
	for _, n := range noCounts {
		mustNotPut(t, named("Command"), api.Command{Kind: api.CmdKind(n)}, api.ErrArg)
		mustNotPut(t, named("Entry"), api.Entry{Kind: api.EntryKind(n)}, api.ErrArg)
		mustNotPut(t, named("Record"), api.Record{Kind: api.RecordKind(n)}, api.ErrArg)
		mustNotPut(t, named("Directory"), api.Directory{Users: []api.User{{Versions: []api.Version{{Kind: api.VerKind(n)}}}}}, api.ErrArg)
		mustNotPut(t, named("Directory"), api.Directory{Sessions: []api.Session{{Code: api.Errno(n)}}}, api.ErrArg)
	}
}

func TestStrings(t *testing.T) {
	long := []string{strings.Repeat("l", 16383), strings.Repeat("l", 16384), strings.Repeat("\xff", 65535), strings.Repeat("\x00", 65536)}
	tooLong := []string{strings.Repeat("l", 65537), strings.Repeat("\x00", 65538), strings.Repeat("m", 200000)}
	for _, s := range structures() {
		atEach(s, "S", func(p place, whole reflect.Value) {
			for _, x := range append(texts(), long...) {
				p.v.SetString(x)
				if !holdPut(t, s, whole.Interface()) {
					t.Fatalf("the reference refuses %s of %d bytes", p.path, len(x))
				}
			}
			for _, x := range tooLong {
				p.v.SetString(x)
				mustNotPut(t, s, whole.Interface(), api.ErrLimit)
			}
		})
	}
}

func TestLists(t *testing.T) {
	for _, s := range structures() {
		atEach(s, "L", func(p place, whole reflect.Value) {
			p.v.SetZero()
			if !holdPut(t, s, whole.Interface()) {
				t.Fatalf("the reference refuses %s as nil", p.path)
			}
			for _, n := range []int{0, 1, 2, 127, 128, 4095, 4096} {
				p.sized(n)
				if !holdPut(t, s, whole.Interface()) {
					t.Fatalf("the reference refuses %s of %d elements", p.path, n)
				}
			}
			for _, n := range []int{4097, 4098, 8192, 65536} {
				p.sized(n)
				mustNotPut(t, s, whole.Interface(), api.ErrLimit)
			}
		})
	}
}

// TestLengthsThatAreNoCounts: a list or a string is refused as one that is too long, and not as a number, however long it is.
func TestLengthsThatAreNoCounts(t *testing.T) {
	held := map[string]bool{}
	for _, s := range structures() {
		for _, sort := range []string{"L", "S"} {
			atEach(s, sort, func(p place, whole reflect.Value) {
				held[p.code] = true
				for _, n := range []int{math.MaxInt32, math.MaxInt32 + 1, 1 << 32, 1<<32 + 2, math.MaxInt} {
					p.stretched(n)
					if b, e := s.put(whole.Interface()); len(b) > 0 || e != api.ErrLimit {
						t.Errorf("P8.1: Put%s with %s of length %d is %s, %d; want nothing, ErrLimit", s.name, p.path, n, hexed(b), e)
					}
				}
			})
		}
	}
	for _, code := range []string{"L(N)", "L(Version)", "L(User)", "L(Head)", "L(Session)", "S"} {
		if !held[code] {
			t.Errorf("no %s was held", code)
		}
	}
}

// TestLongListsOfWholes: the elements of a long list are encoded, not only counted.
func TestLongListsOfWholes(t *testing.T) {
	s := named("Directory")
	x := counting(2).made(s)
	for _, p := range places(s.name, s.name, x) {
		if inner, ok := element(p.code); ok {
			f := counting(0)
			p.sized(4096)
			for i := range 4096 {
				f.fill(inner, p.v.Index(i))
			}
		}
	}
	if !holdPut(t, s, x.Interface()) {
		t.Fatal("the reference refuses it")
	}
}

func TestEmptyListsWithinLists(t *testing.T) {
	for _, x := range []api.Directory{
		{Users: []api.User{{}}},
		{Users: []api.User{{}, {}, {}}},
		{Users: []api.User{{Name: "a", Versions: []api.Version{}}, {Name: "b", Versions: []api.Version{{}}}, {Name: "c"}}, Heads: []api.Head{}},
		{Users: []api.User{}, Heads: []api.Head{{}}, Sessions: []api.Session{}},
	} {
		if !holdPut(t, named("Directory"), x) {
			t.Fatalf("the reference refuses %s", brief(x))
		}
	}
	if b, e := wire.PutDirectory(api.Directory{Users: make([]api.User, 2)}); string(b) != "\x00\x02\x00\x00\x00\x00\x00\x00" || e != api.OK {
		t.Errorf("P8.1: two empty users are %s, %d", hexed(b), e)
	}
}

// spoil makes what is at p impossible to encode, and returns the error of that.
func (p place) spoil(i int) api.Errno {
	switch p.code {
	case "N":
		p.v.SetInt(int64(noCounts[i%len(noCounts)]))
		return api.ErrArg
	case "S":
		p.v.SetString(strings.Repeat("s", 65537))
		return api.ErrLimit
	case "D":
		return api.OK
	}
	p.sized(4097)
	return api.ErrLimit
}

// TestTheFirstErrorIsTheAnswer: of any two fields that cannot be encoded, the one that is ahead.
func TestTheFirstErrorIsTheAnswer(t *testing.T) {
	seen := map[[2]api.Errno]int{}
	for _, s := range structures() {
		count := len(places("", s.name, counting(2).made(s)))
		for i := range count {
			for j := i + 1; j < count; j++ {
				whole := counting(2).made(s)
				list := places("", s.name, whole)
				// The later one first: a list that grows takes its elements along.
				behind, ahead := list[j].spoil(i), list[i].spoil(j)
				if ahead == api.OK || behind == api.OK {
					continue
				}
				seen[[2]api.Errno{ahead, behind}]++
				if e := refusal(s.name, whole); e != ahead {
					t.Fatalf("the reference refuses %s and %s with %d", list[i].path, list[j].path, e)
				}
				if b, e := s.put(whole.Interface()); len(b) > 0 || e != ahead {
					t.Fatalf("P8.1: Put%s with %s ahead of %s is %s, %d; want %d", s.name, list[i].path, list[j].path, hexed(b), e, ahead)
				}
			}
		}
	}
	if seen[[2]api.Errno{api.ErrArg, api.ErrLimit}] < 100 || seen[[2]api.Errno{api.ErrLimit, api.ErrArg}] < 100 {
		t.Fatalf("only %v", seen)
	}
}

// TestTheFirstErrorBesideALengthThatIsNoCount: such a length is refused in its place, ahead of the elements of its list.
func TestTheFirstErrorBesideALengthThatIsNoCount(t *testing.T) {
	for _, s := range structures() {
		for i, long := range places("", s.name, counting(2).made(s)) {
			if long.code == "N" || long.code == "D" {
				continue
			}
			for j, bad := range places("", s.name, counting(2).made(s)) {
				if bad.code != "N" {
					continue
				}
				whole := counting(2).made(s)
				list := places("", s.name, whole)
				list[j].spoil(i)
				list[i].stretched(math.MaxInt32 + 1)
				want := api.ErrLimit
				if j < i {
					want = api.ErrArg
				}
				if b, e := s.put(whole.Interface()); len(b) > 0 || e != want {
					t.Fatalf("P8.1: Put%s with %s that is too long and %s that is no count is %s, %d; want nothing, %d", s.name, long.path, bad.path, hexed(b), e, want)
				}
			}
		}
	}
}

func TestTheFirstErrorByHand(t *testing.T) {
	long := strings.Repeat("s", 65537)
	for _, x := range []struct {
		x any
		e api.Errno
	}{
		{api.Command{Seq: -1, User: long}, api.ErrArg},
		{api.Command{User: long, Epoch: -1}, api.ErrLimit},
		{api.Command{Key: long, Epoch: -1}, api.ErrLimit},
		{api.Entry{Command: api.Command{Key: long}, Council: api.Council{Voters: []int{-1}}}, api.ErrLimit},
		{api.Entry{Council: api.Council{Voters: []int{1, -1}, Learners: make([]int, 4097)}}, api.ErrArg},
		{api.Entry{Council: api.Council{Voters: make([]int, 4097), Learners: []int{-1}}}, api.ErrLimit},
		{api.Record{Index: -1, Entry: api.Entry{Command: api.Command{User: long}}}, api.ErrLimit},
		{api.Record{Index: -1, Snap: api.Snapshot{Data: long}}, api.ErrArg},
		{api.Record{Snap: api.Snapshot{Data: long}, Signed: api.Signed{Head: api.Head{Epoch: -1}}}, api.ErrLimit},
		{api.Signed{Head: api.Head{Epoch: -1}}, api.ErrArg},
		{api.Directory{Users: append(make([]api.User, 4096), api.User{Versions: []api.Version{{Epoch: -1}}})}, api.ErrLimit},
		{api.Directory{Users: append([]api.User{{Versions: []api.Version{{Epoch: -1}}}}, make([]api.User, 4096)...)}, api.ErrLimit},
		{api.Directory{Users: []api.User{{Versions: []api.Version{{Kind: -1, Key: long}}}}}, api.ErrArg},
		{api.Directory{Users: []api.User{{Name: long}}, Heads: []api.Head{{Epoch: -1}}}, api.ErrLimit},
		{api.Directory{Users: []api.User{{Versions: []api.Version{{Epoch: -1}}}, {Name: long}}}, api.ErrArg},
		{api.Directory{Heads: []api.Head{{Epoch: -1}}, Sessions: make([]api.Session, 4097)}, api.ErrArg},
		{api.Directory{Heads: make([]api.Head, 4097), Sessions: []api.Session{{Code: -1}}}, api.ErrLimit},
	} {
		mustNotPut(t, named(value(x.x).Type().Name()), x.x, x.e)
	}
}
