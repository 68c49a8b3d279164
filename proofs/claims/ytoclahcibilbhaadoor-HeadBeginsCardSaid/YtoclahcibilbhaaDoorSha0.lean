/-
  SHA-256 on lists of numbers: the words, the rounds, the blocks, the padded message.
-/
namespace Go.Proofs.YtoclahcibilbhaaDoor

/-- x turned right by n bits -/
def rotr (x n : Nat) : Nat := x / 2 ^ n ||| x * 2 ^ (32 - n) % 4294967296

def sg0 (x : Nat) : Nat := rotr x 7 ^^^ rotr x 18 ^^^ x / 8
def sg1 (x : Nat) : Nat := rotr x 17 ^^^ rotr x 19 ^^^ x / 1024
def bs0 (x : Nat) : Nat := rotr x 2 ^^^ rotr x 13 ^^^ rotr x 22
def bs1 (x : Nat) : Nat := rotr x 6 ^^^ rotr x 11 ^^^ rotr x 25

/-- the eight words -/
structure H8 where
  (a b c d e f g h : Nat)
deriving DecidableEq

def H8.init : H8 := ⟨0x6a09e667, 0xbb67ae85, 0x3c6ef372, 0xa54ff53a, 0x510e527f, 0x9b05688c, 0x1f83d9ab, 0x5be0cd19⟩

def ks : List Nat := [
  0x428a2f98, 0x71374491, 0xb5c0fbcf, 0xe9b5dba5, 0x3956c25b, 0x59f111f1, 0x923f82a4, 0xab1c5ed5,
  0xd807aa98, 0x12835b01, 0x243185be, 0x550c7dc3, 0x72be5d74, 0x80deb1fe, 0x9bdc06a7, 0xc19bf174,
  0xe49b69c1, 0xefbe4786, 0x0fc19dc6, 0x240ca1cc, 0x2de92c6f, 0x4a7484aa, 0x5cb0a9dc, 0x76f988da,
  0x983e5152, 0xa831c66d, 0xb00327c8, 0xbf597fc7, 0xc6e00bf3, 0xd5a79147, 0x06ca6351, 0x14292967,
  0x27b70a85, 0x2e1b2138, 0x4d2c6dfc, 0x53380d13, 0x650a7354, 0x766a0abb, 0x81c2c92e, 0x92722c85,
  0xa2bfe8a1, 0xa81a664b, 0xc24b8b70, 0xc76c51a3, 0xd192e819, 0xd6990624, 0xf40e3585, 0x106aa070,
  0x19a4c116, 0x1e376c08, 0x2748774c, 0x34b0bcb5, 0x391c0cb3, 0x4ed8aa4a, 0x5b9cca4f, 0x682e6ff3,
  0x748f82ee, 0x78a5636f, 0x84c87814, 0x8cc70208, 0x90befffa, 0xa4506ceb, 0xbef9a3f7, 0xc67178f2]

/-- the t-th word of a block's bytes -/
def word (b : List UInt8) (t : Nat) : Nat :=
  (b.getD (4 * t) 0).toNat * 16777216 + (b.getD (4 * t + 1) 0).toNat * 65536 + (b.getD (4 * t + 2) 0).toNat * 256 + (b.getD (4 * t + 3) 0).toNat

/-- the next word behind the words p -/
def ext (p : List Nat) (t : Nat) : Nat :=
  (sg1 (p.getD (t - 2) 0) + p.getD (t - 7) 0 + sg0 (p.getD (t - 15) 0) + p.getD (t - 16) 0) % 4294967296

def sched (b : List UInt8) : Nat → List Nat
  | 0 => []
  | t + 1 => sched b t ++ [if t < 16 then word b t else ext (sched b t) t]

def ch (e f g : Nat) : Nat := (e &&& f) ^^^ ((4294967295 ^^^ e) &&& g)
def maj (a b c : Nat) : Nat := (a &&& b) ^^^ (a &&& c) ^^^ (b &&& c)
def one (e f g h k w : Nat) : Nat := (h + bs1 e + ch e f g + k + w) % 4294967296
def two (a b c : Nat) : Nat := (bs0 a + maj a b c) % 4294967296
/-- a round -/
def H8.round (s : H8) (k w : Nat) : H8 :=
  ⟨(one s.e s.f s.g s.h k w + two s.a s.b s.c) % 4294967296, s.a, s.b, s.c, (s.d + one s.e s.f s.g s.h k w) % 4294967296, s.e, s.f, s.g⟩

def H8.rounds (s : H8) (ws : List Nat) : Nat → H8
  | 0 => s
  | t + 1 => (s.rounds ws t).round (ks.getD t 0) (ws.getD t 0)

def H8.add (s v : H8) : H8 :=
  ⟨(s.a + v.a) % 4294967296, (s.b + v.b) % 4294967296, (s.c + v.c) % 4294967296, (s.d + v.d) % 4294967296,
   (s.e + v.e) % 4294967296, (s.f + v.f) % 4294967296, (s.g + v.g) % 4294967296, (s.h + v.h) % 4294967296⟩

/-- the words behind a block -/
def H8.mix (s : H8) (b : List UInt8) : H8 := s.add (s.rounds (sched b 64) 64)

/-- the words behind n blocks -/
def blocks (l : List UInt8) : Nat → H8
  | 0 => H8.init
  | n + 1 => (blocks l n).mix ((l.drop (64 * n)).take 64)

/-- n as 8 bytes -/
def be8 (n : Nat) : List UInt8 := (List.range 8).map fun i => UInt8.ofNat (n / 256 ^ (7 - i))

/-- what comes behind a message of n bytes -/
def padOf (n : Nat) : List UInt8 := 128 :: (List.replicate ((119 - n % 64) % 64) 0 ++ be8 (8 * n % 18446744073709551616))

def be4 (n : Nat) : List UInt8 := [UInt8.ofNat (n / 16777216), UInt8.ofNat (n / 65536), UInt8.ofNat (n / 256), UInt8.ofNat n]
def H8.bytes (s : H8) : List UInt8 := be4 s.a ++ be4 s.b ++ be4 s.c ++ be4 s.d ++ be4 s.e ++ be4 s.f ++ be4 s.g ++ be4 s.h

def sha (l : List UInt8) : List UInt8 := (blocks (l ++ padOf l.length) ((l ++ padOf l.length).length / 64)).bytes

end Go.Proofs.YtoclahcibilbhaaDoor
