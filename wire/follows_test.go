package wire_test

import (
	"bytes"
	"testing"

	"tabellion/api"
)

// TestWhatWasEncodedIsDecoded: by the package's own calls alone, there and back, and back and there.
func TestWhatWasEncodedIsDecoded(t *testing.T) {
	for _, s := range structures() {
		for _, x := range samples(s) {
			b, e := s.put(x)
			y, f := s.get(b)
			if e != api.OK || f != api.OK || !alike(x, y) {
				t.Fatalf("P8.3: %s was encoded as %s, %d, and decoded as %s, %d", brief(x), hexed(b), e, brief(y), f)
			}
			if c, e := s.put(y); !bytes.Equal(b, c) || e != api.OK {
				t.Fatalf("P8.3: %s was decoded as %s, and encoded as %s, %d", hexed(b), brief(y), hexed(c), e)
			}
			if y, f := s.get(b[:len(b)-1]); f != api.ErrWireForm {
				t.Fatalf("P8.3: %s without its last byte is decoded as %s, %d", hexed(b), brief(y), f)
			}
			for c := range 256 {
				if y, f := s.get(append(bytes.Clone(b), byte(c))); f != api.ErrWireForm {
					t.Fatalf("P8.3: %s followed by %d is decoded as %s, %d", hexed(b), c, brief(y), f)
				}
			}
		}
	}
}

// TestDifferentStructuresDiffer: no two of the samples have one encoding, as none are alike.
func TestDifferentStructuresDiffer(t *testing.T) {
	for _, s := range structures() {
		seen := map[string]any{}
		for _, x := range samples(s) {
			b, _ := s.put(x)
			if y, ok := seen[string(b)]; ok && !alike(x, y) {
				t.Fatalf("P8.3: %s and %s have one encoding", brief(x), brief(y))
			}
			seen[string(b)] = x
		}
	}
}
