package wire_test

import (
	"bytes"
	"encoding/binary"
	"math/rand"
	"reflect"
	"runtime"
	"slices"
	"strings"
	"testing"
)

func TestGetOfNothing(t *testing.T) {
	for _, s := range structures() {
		mustNotGet(t, s, nil)
		mustNotGet(t, s, []byte{})
	}
}

// TestGetOfTooFewBytesAndTooMany: an encoding that ends too early, at every place, or has something behind it, is none.
func TestGetOfTooFewBytesAndTooMany(t *testing.T) {
	for _, s := range structures() {
		for _, x := range samples(s) {
			b := written(s, x).bytes
			mustGet(t, s, b, x)
			for n := range len(b) {
				mustNotGet(t, s, b[:n])
				if n < 300 {
					mustNotGet(t, s, b[:n:n])
				}
			}
			for c := range 256 {
				mustNotGet(t, s, append(bytes.Clone(b), byte(c)))
			}
			mustNotGet(t, s, slices.Concat(b, b))
			mustNotGet(t, s, append(bytes.Clone(b), make([]byte, 200)...))
		}
	}
}

// spliced returns the encoding with other bytes instead of the count at m.
func (t text) spliced(m mark, count []byte) []byte {
	return slices.Concat(t.bytes[:m.at], count, t.bytes[m.at+m.size:])
}

// otherForms returns bytes that tell n, but not as a count does, or tell no count.
func otherForms(n uint64) [][]byte {
	var list [][]byte
	shortest := binary.AppendUvarint(nil, n)
	for more := 1; more <= 5; more++ {
		b := bytes.Clone(shortest)
		b[len(b)-1] |= 128
		for range more - 1 {
			b = append(b, 128)
		}
		list = append(list, append(b, 0))
	}
	for _, far := range []uint64{1 << 31, 1<<32 - 1, 1 << 32, 1<<32 + n, 1<<34 - 1, 1 << 35, 1<<63 + n} {
		list = append(list, binary.AppendUvarint(nil, far))
	}
	return append(list, []byte("\xff\xff\xff\xff\xff"), []byte("\x80\x80\x80\x80\x80"), []byte("\xff\xff\xff\xff\x08"))
}

func TestGetOfOtherFormsOfNumbers(t *testing.T) {
	for _, s := range structures() {
		for _, x := range samples(s) {
			whole := written(s, x)
			for _, m := range whole.marks {
				for _, form := range otherForms(m.n) {
					mustNotGet(t, s, whole.spliced(m, form))
				}
			}
		}
	}
}

// TestGetOfOtherNumbers: a number or a length may be another one, if what follows suits it.
func TestGetOfOtherNumbers(t *testing.T) {
	accepted := 0
	for _, s := range structures() {
		for _, x := range samples(s) {
			whole := written(s, x)
			for _, m := range whole.marks {
				for _, n := range append(slices.Clone(numbers), int(m.n)+1, max(int(m.n)-1, 0)) {
					if holdGet(t, s, whole.spliced(m, binary.AppendUvarint(nil, uint64(n)))) {
						accepted++
					}
				}
			}
		}
	}
	if accepted < 10000 {
		t.Fatalf("only %d byte strings were accepted", accepted)
	}
}

// TestGetOfGreaterLengths: strings and lists that tell more than what follows, or more than the limit.
func TestGetOfGreaterLengths(t *testing.T) {
	for _, s := range structures() {
		for n := range 4 {
			whole := written(s, counting(n).made(s).Interface())
			for _, m := range whole.marks {
				if m.code == "N" {
					continue
				}
				follow := len(whole.bytes) - m.at - m.size
				for _, n := range []int{follow + 1, follow + 100, 4097, 65537, 1 << 20, 2147483646, 2147483647} {
					b := whole.spliced(m, binary.AppendUvarint(nil, uint64(n)))
					mustNotGet(t, s, b)
					mustNotGet(t, s, b[:m.at+m.size])
				}
			}
		}
	}
}

// TestGetBeyondTheLimits: what is as long as it tells, but longer than the limit.
func TestGetBeyondTheLimits(t *testing.T) {
	for _, s := range structures() {
		atEach(s, "S", func(p place, whole reflect.Value) {
			for _, n := range []int{65536, 65537, 65538, 131072} {
				p.v.SetString(strings.Repeat("s", n))
				if b := written(s, whole.Interface()).bytes; n == 65536 {
					mustGet(t, s, b, whole.Interface())
				} else {
					mustNotGet(t, s, b)
				}
			}
		})
		atEach(s, "L", func(p place, whole reflect.Value) {
			for _, n := range []int{4095, 4096, 4097, 4098, 5000} {
				p.sized(n)
				if b := written(s, whole.Interface()).bytes; n <= 4096 {
					mustGet(t, s, b, whole.Interface())
				} else {
					mustNotGet(t, s, b)
				}
			}
		})
	}
}

// allocated returns how many bytes f allocates.
func allocated(f func()) uint64 {
	var before, after runtime.MemStats
	runtime.ReadMemStats(&before)
	f()
	runtime.ReadMemStats(&after)
	return after.TotalAlloc - before.TotalAlloc
}

// TestGetOfCountsWithoutElements: the count of a list without elements is refused, and costs no memory.
func TestGetOfCountsWithoutElements(t *testing.T) {
	s := named("Directory")
	for _, count := range []string{"\xff\x1f", "\x80\x20", "\x81\x20", "\xff\xff\xff\xff\x07"} {
		for _, front := range []string{"\x00", "\x00\x00", "\x00\x00\x00", "\x00\x01\x00", "\x00\x80\x20\x00"} {
			b := []byte(front + count)
			mustNotGet(t, s, b)
			if n := allocated(func() { s.get(b) }); n > 20000 {
				t.Errorf("Get of %s allocates %d bytes", hexed(b), n)
			}
		}
	}
}

// TestGetOfAllShortBytes: all bytes of some lengths, and all lists of a few bytes behind some fronts.
func TestGetOfAllShortBytes(t *testing.T) {
	for _, s := range structures() {
		for first := range 256 {
			holdGet(t, s, []byte{byte(first)})
			for second := range 256 {
				holdGet(t, s, []byte{byte(first), byte(second)})
			}
		}
	}
	accepted := 0
	var grow func(s structure, b []byte, n int, end []byte)
	grow = func(s structure, b []byte, n int, end []byte) {
		if holdGet(t, s, slices.Concat(b, end)) {
			accepted++
		}
		if n > 0 {
			for _, c := range []byte{0, 1, 2, 128, 255} {
				grow(s, append(bytes.Clone(b), c), n-1, end)
			}
		}
	}
	grow(named("Directory"), nil, 6, nil)
	grow(named("Directory"), []byte{0, 1}, 6, []byte{0, 0})
	grow(named("Directory"), []byte{0, 0, 0}, 6, nil)
	grow(named("Command"), nil, 6, make([]byte, 32))
	grow(named("Entry"), make([]byte, 41), 5, nil)
	grow(named("Record"), make([]byte, 45), 5, make([]byte, 100))
	grow(named("Signed"), nil, 4, make([]byte, 96))
	if accepted < 500 {
		t.Fatalf("only %d byte strings were accepted", accepted)
	}
}

// TestGetOfChangedBytes: encodings some of whose bytes are others, are gone, or were added.
func TestGetOfChangedBytes(t *testing.T) {
	r := rand.New(rand.NewSource(9))
	accepted := 0
	for _, s := range structures() {
		for _, x := range samples(s) {
			b := written(s, x).bytes
			for range 300 {
				c := bytes.Clone(b)
				for range 1 + r.Intn(3) {
					i := r.Intn(len(c))
					switch r.Intn(4) {
					case 0:
						c = slices.Delete(c, i, i+1)
					case 1:
						c = slices.Insert(c, i, byte(r.Intn(256)))
					case 2:
						c[i] ^= 1 << r.Intn(8)
					default:
						c[i] = byte(r.Intn(256))
					}
					if len(c) == 0 {
						break
					}
				}
				if holdGet(t, s, c) {
					accepted++
				}
			}
		}
	}
	if accepted < 1000 {
		t.Fatalf("only %d byte strings were accepted", accepted)
	}
}

func TestGetOfRandomBytes(t *testing.T) {
	r := rand.New(rand.NewSource(10))
	for range 30000 {
		b := make([]byte, r.Intn(200))
		r.Read(b)
		if r.Intn(2) == 0 {
			for i := range b {
				b[i] %= 4
			}
		}
		for _, s := range structures() {
			holdGet(t, s, b)
		}
	}
}
