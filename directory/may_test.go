package directory_test

import (
	"math"
	"slices"
	"strings"
	"testing"

	"tabellion/api"
	"tabellion/directory"
)

// mustMay fails if May doesn't return want, or if Apply accepts what May doesn't.
func mustMay(t *testing.T, c api.Command, want bool) {
	t.Helper()
	if may := directory.May(c); may != want {
		t.Fatalf("P10.1: May of %+v is %t; want %t", c, may, want)
	}
	if _, e := directory.Apply(api.Directory{}, c); (e == api.ErrDirForm) == want {
		t.Fatalf("P10.2: Apply of %+v is %d", c, e)
	}
}

func TestMayOfSamples(t *testing.T) {
	for _, c := range commands() {
		mustMay(t, c, true)
	}
	for _, c := range noCommands() {
		mustMay(t, c, false)
	}
}

// kinds has a valid command of each kind.
func kinds() []api.Command {
	return []api.Command{put(1, 1, "u", "k"), rotate(1, 1, "u", "k"), revoke(1, 1, "u"), seal(1), intent(1, api.Digest{1})}
}

// isRequest reports whether c is a client's, by its kind.
func isRequest(c api.Command) bool {
	return c.Kind <= api.CmdRevoke
}

// TestMayOfFieldsThatMustBeZero: what isn't a field of a kind is zero.
func TestMayOfFieldsThatMustBeZero(t *testing.T) {
	for _, c := range kinds() {
		mustMay(t, c, true)
		for _, n := range append([]int{1, 2, 4, 200, 1000000}, far...) {
			client, seq, epoch := c, c, c
			client.Client, seq.Seq, epoch.Epoch = n, n, n
			mustMay(t, client, isRequest(c) && 1 <= n && n <= 4)
			mustMay(t, seq, isRequest(c) && 1 <= n && n <= 1000000)
			mustMay(t, epoch, !isRequest(c) && 1 <= n && n <= 200)
		}
		for _, s := range []string{"a", "\x00", "0", strings.Repeat("x", 32)} {
			name, key := c, c
			name.User, key.Key = s, s
			mustMay(t, name, isRequest(c))
			mustMay(t, key, c.Kind == api.CmdPut || c.Kind == api.CmdRotate)
		}
		for bit := range 256 {
			root := c
			root.Root = api.Digest{}
			root.Root[bit/8] = 1 << (bit % 8)
			mustMay(t, root, c.Kind == api.CmdIntent)
		}
		none := c
		none.Root = api.Digest{}
		mustMay(t, none, true)
	}
}

// TestMayOfFieldsThatMustNotBeZero: what is a field of a kind is there.
func TestMayOfFieldsThatMustNotBeZero(t *testing.T) {
	for _, c := range kinds() {
		client, seq, name, key, epoch := c, c, c, c, c
		client.Client, seq.Seq, name.User, key.Key, epoch.Epoch = 0, 0, "", "", 0
		for _, x := range []api.Command{client, seq, name, key, epoch} {
			mustMay(t, x, x == c)
		}
		mustMay(t, api.Command{Kind: c.Kind}, false)
	}
}

func TestMayOfKinds(t *testing.T) {
	for kind := -10; kind <= 300; kind++ {
		for i, c := range kinds() {
			c.Kind = api.CmdKind(kind)
			mustMay(t, c, kind == i+1 || i < 2 && (kind == 1 || kind == 2) || i == 3 && kind == 5)
		}
		mustMay(t, api.Command{Kind: api.CmdKind(kind)}, false)
	}
	for _, kind := range []int{1<<32 + 1, 1<<32 + 4, 1<<16 + 1, 257, 260, math.MaxInt, math.MinInt} {
		for _, c := range kinds() {
			c.Kind = api.CmdKind(kind)
			mustMay(t, c, false)
		}
	}
}

func TestMayOfClients(t *testing.T) {
	for _, c := range kinds()[:3] {
		for client := -10; client <= 300; client++ {
			c.Client = client
			mustMay(t, c, 1 <= client && client <= 4)
		}
	}
}

func TestMayOfSeqs(t *testing.T) {
	for _, c := range kinds()[:3] {
		for _, seq := range []int{-1, 0, 1, 2, 127, 128, 65535, 65536, 65537, 999999, 1000000, 1000001, 1000002} {
			c.Seq = seq
			mustMay(t, c, 1 <= seq && seq <= 1000000)
		}
	}
}

func TestMayOfNames(t *testing.T) {
	for _, c := range kinds()[:3] {
		for n := range 300 {
			for _, s := range []string{"\x00", "u", "\xff"} {
				c.User = strings.Repeat(s, n)
				mustMay(t, c, 1 <= n && n <= 32)
			}
		}
		for b := range 256 {
			c.User = "u" + string([]byte{byte(b)})
			mustMay(t, c, true)
		}
	}
}

func TestMayOfKeys(t *testing.T) {
	for i, c := range kinds()[:3] {
		for n := range 300 {
			for _, s := range []string{"\x00", "k", "\xff"} {
				c.Key = strings.Repeat(s, n)
				mustMay(t, c, i < 2 && 1 <= n && n <= 64 || i == 2 && n == 0)
			}
		}
		for b := range 256 {
			c.Key = string([]byte{byte(b)})
			mustMay(t, c, i < 2)
		}
	}
}

func TestMayOfEpochs(t *testing.T) {
	for _, c := range kinds()[3:] {
		for epoch := -300; epoch <= 600; epoch++ {
			c.Epoch = epoch
			mustMay(t, c, 1 <= epoch && epoch <= 200)
		}
	}
}

// TestMayOfAll holds May against the chapter's words for all choices of some values of the fields.
func TestMayOfAll(t *testing.T) {
	found := map[api.CmdKind]int{}
	clients, seqs, epochs := []int{-1, 0, 1, 4, 5}, []int{-1, 0, 1, 1000000, 1000001}, []int{-1, 0, 1, 200, 201}
	users, texts, roots := []string{"", "u", strings.Repeat("u", 32), strings.Repeat("u", 33)}, []string{"", "k", strings.Repeat("k", 64), strings.Repeat("k", 65)}, []api.Digest{{}, {1}}
	for kind := api.CmdKind(-1); kind <= 7; kind++ {
		for i := range 125 {
			for j := range 32 {
				c := api.Command{Kind: kind, Client: clients[i%5], Seq: seqs[i/5%5], Epoch: epochs[i/25], User: users[j%4], Key: texts[j/4%4], Root: roots[j/16]}
				may := directory.May(c)
				if may != isCommand(c) {
					t.Fatalf("P10.1: May of %+v is %t", c, may)
				}
				if may {
					found[kind]++
				}
			}
		}
	}
	if !slices.Equal([]int{found[1], found[2], found[3], found[4], found[5], len(found)}, []int{16, 16, 8, 2, 4, 5}) {
		t.Errorf("of the kinds, so many are valid: %v", found)
	}
}
