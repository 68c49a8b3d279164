package wire_test

import (
	"reflect"
	"slices"
	"strings"
	"testing"

	"tabellion/api"
	"tabellion/wire"
)

// named returns the structure of that name.
func named(name string) structure {
	list := structures()
	return list[slices.IndexFunc(list, func(s structure) bool { return s.name == name })]
}

// digest is one of 32 bytes c, and run is its encoding.
func digest(c byte) api.Digest {
	return api.Digest([]byte(run(c)))
}

func run(c byte) string {
	return strings.Repeat(string([]byte{c}), 32)
}

func TestExamples(t *testing.T) {
	if b, e := wire.PutCommand(api.Command{}); string(b) != strings.Repeat("\x00", 38) || e != api.OK {
		t.Errorf("P8.1: PutCommand(zero) is %s, %d", hexed(b), e)
	}
	if x, e := wire.GetCommand(make([]byte, 38)); x != (api.Command{}) || e != api.OK {
		t.Errorf("P8.2: GetCommand(38 bytes 0) is %s, %d", brief(x), e)
	}
	if x, e := wire.GetCommand(make([]byte, 37)); x != (api.Command{}) || e != api.ErrWireForm {
		t.Errorf("P8.2: GetCommand(37 bytes 0) is %s, %d", brief(x), e)
	}
	if b, e := wire.PutCommand(api.Command{Client: -1}); len(b) > 0 || e != api.ErrArg {
		t.Errorf("P8.1: PutCommand(Client -1) is %s, %d", hexed(b), e)
	}
	if b, e := wire.PutDirectory(api.Directory{Heads: make([]api.Head, 4097)}); len(b) > 0 || e != api.ErrLimit {
		t.Errorf("P8.1: PutDirectory(with 4097 Heads) is %s, %d", hexed(b), e)
	}
}

// encodings are structures and what they are encoded as, by hand.
func encodings() map[string]any {
	command := api.Command{Kind: api.CmdPut, Client: 2, Seq: 300, User: "u", Key: "k\x00", Epoch: 128, Root: digest(9)}
	council := api.Council{Voters: []int{1, 2, 300}, Learners: []int{4}}
	commandBytes := "\x01\x02\xac\x02\x01u\x02k\x00\x80\x01" + run(9)
	councilBytes := "\x03\x01\x02\xac\x02\x01\x04"
	return map[string]any{
		strings.Repeat("\x00", 38):                          api.Command{},
		strings.Repeat("\x00", 43):                          api.Entry{},
		strings.Repeat("\x00", 149):                         api.Record{},
		strings.Repeat("\x00", 97):                          api.Signed{},
		strings.Repeat("\x00", 4):                           api.Directory{},
		commandBytes:                                        command,
		"\xff\xff\xff\xff\x07\x00\x00\x00\x00\x00" + run(0): api.Command{Kind: 2147483647},
		"\x07\x08\x03" + commandBytes + councilBytes:        api.Entry{Index: 7, Term: 8, Kind: api.EntryCouncil, Command: command, Council: council},
		"\x04\x05\x06\x07\x08\x02" + commandBytes + councilBytes + "\x09\x0a\x0b\x00\x02\x01\x01\x04data\x0c" + run(1) + run(2) + run(3): api.Record{
			Kind: api.RecordSnap, Term: 5, Vote: 6,
			Entry:  api.Entry{Index: 7, Term: 8, Kind: api.EntryCommand, Command: command, Council: council},
			Index:  9,
			Snap:   api.Snapshot{Index: 10, Term: 11, Council: api.Council{Learners: []int{1, 1}}, Data: "data"},
			Signed: api.Signed{Head: api.Head{Epoch: 12, Root: digest(1), Prev: digest(2)}, Sign: digest(3)},
		},
		"\x01" + run(4) + run(5) + run(6): api.Signed{Head: api.Head{Epoch: 1, Root: digest(4), Prev: digest(5)}, Sign: digest(6)},
		"\x03\x02\x01a\x02\x01\x01\x01k\x02\x03\x00\x00\x00" + "\x02\x01" + run(7) + run(0) + "\x02" + run(8) + run(9) + "\x01\x01\x07\x34\x02": api.Directory{
			Epoch:    3,
			Users:    []api.User{{Name: "a", Versions: []api.Version{{Epoch: 1, Kind: api.VerPut, Key: "k"}, {Epoch: 2, Kind: api.VerRevoke}}}, {}},
			Heads:    []api.Head{{Epoch: 1, Root: digest(7)}, {Epoch: 2, Root: digest(8), Prev: digest(9)}},
			Sessions: []api.Session{{Client: 1, Seq: 7, Code: api.ErrVersionNone, Epoch: 2}},
		},
		"\x00\x00\x00\x01\x80\x01\x01\xc8\x01\x7f": api.Directory{Sessions: []api.Session{{Client: 128, Seq: 1, Code: api.ErrDeskLine, Epoch: 127}}},
	}
}

func TestByHand(t *testing.T) {
	for b, x := range encodings() {
		s := named(reflect.TypeOf(x).Name())
		mustPut(t, s, x, []byte(b))
		mustGet(t, s, []byte(b), x)
		if e := refusal(s.name, value(x)); e != api.OK || string(written(s, x).bytes) != b {
			t.Errorf("the reference writes %s as %s, %d", brief(x), hexed(written(s, x).bytes), e)
		}
	}
}
