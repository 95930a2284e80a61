/- Chapter 2 (sha), as plain functions over numbers. No program is named here. -/
import Derived.Test.YtbkpekpajeaacaaGDig
namespace Sh

/-- A word of 32 bits, turned right. -/
def rot (x n : Nat) : Nat := x / 2 ^ n + x % 2 ^ n * 2 ^ (32 - n)
def big0 (a : Nat) : Nat := (rot a 2 ^^^ rot a 13) ^^^ rot a 22
def big1 (e : Nat) : Nat := (rot e 6 ^^^ rot e 11) ^^^ rot e 25
def sm0 (x : Nat) : Nat := (rot x 7 ^^^ rot x 18) ^^^ x / 8
def sm1 (y : Nat) : Nat := (rot y 17 ^^^ rot y 19) ^^^ y / 1024
def ch (e f g : Nat) : Nat := (e &&& f) ^^^ ((4294967295 - e) &&& g)
def maj (a b c : Nat) : Nat := ((a &&& b) ^^^ (a &&& c)) ^^^ (b &&& c)
def add (a b : Nat) : Nat := (a + b) % 4294967296

/-- The constants. -/
def words : List Nat := [1116352408, 1899447441, 3049323471, 3921009573, 961987163, 1508970993, 2453635748, 2870763221, 3624381080, 310598401, 607225278, 1426881987, 1925078388, 2162078206, 2614888103, 3248222580, 3835390401, 4022224774, 264347078, 604807628, 770255983, 1249150122, 1555081692, 1996064986, 2554220882, 2821834349, 2952996808, 3210313671, 3336571891, 3584528711, 113926993, 338241895, 666307205, 773529912, 1294757372, 1396182291, 1695183700, 1986661051, 2177026350, 2456956037, 2730485921, 2820302411, 3259730800, 3345764771, 3516065817, 3600352804, 4094571909, 275423344, 430227734, 506948616, 659060556, 883997877, 958139571, 1322822218, 1537002063, 1747873779, 1955562222, 2024104815, 2227730452, 2361852424, 2428436474, 2756734187, 3204031479, 3329325298]
def first : List Nat := [1779033703, 3144134277, 1013904242, 2773480762, 1359893119, 2600822924, 528734635, 1541459225]

/-- The word that 4 bytes tell. -/
def word (b : List UInt8) (j : Nat) : Nat := Dg.ofB ((b.drop (4 * j)).take 4)
/-- The next word of the row. -/
def next (w : List Nat) : Nat := add (add (add (w.getD (w.length - 16) 0) (sm0 (w.getD (w.length - 15) 0))) (w.getD (w.length - 7) 0)) (sm1 (w.getD (w.length - 2) 0))
def ext : Nat → List Nat → List Nat
  | 0, w => w
  | n + 1, w => ext n (w ++ [next w])
def head (b : List UInt8) : List Nat := (List.range 16).map (word b)
def sched (b : List UInt8) : List Nat := ext 48 (head b)

/-- The state within a block. -/
abbrev St := Nat × Nat × Nat × Nat × Nat × Nat × Nat × Nat
def ofL (h : List Nat) : St := (h.getD 0 0, h.getD 1 0, h.getD 2 0, h.getD 3 0, h.getD 4 0, h.getD 5 0, h.getD 6 0, h.getD 7 0)
def toL : St → List Nat
  | (a, b, c, d, e, f, g, k) => [a, b, c, d, e, f, g, k]
def tt (e f g k kw w : Nat) : Nat := add (add (add (add k (big1 e)) (ch e f g)) kw) w
def uu (a b c : Nat) : Nat := add (big0 a) (maj a b c)
def step : St → Nat → Nat → St
  | (a, b, c, d, e, f, g, k), kw, w => (add (tt e f g k kw w) (uu a b c), a, b, c, add d (tt e f g k kw w), e, f, g)
/-- The first n rounds. -/
def rounds (s : St) (w : List Nat) : Nat → St
  | 0 => s
  | n + 1 => step (rounds s w n) (words.getD n 0) (w.getD n 0)
def block (h : List Nat) (b : List UInt8) : List Nat := List.zipWith add h (toL (rounds (ofL h) (sched b) 64))

def be8 (n : Nat) : List UInt8 := (List.range 8).map fun i => UInt8.ofNat (n / 2 ^ (8 * (7 - i)) % 256)
def zeros (n : Nat) : Nat := (119 - n % 64) % 64
def pad (s : List UInt8) : List UInt8 := s ++ 128 :: (List.replicate (zeros s.length) 0 ++ be8 (8 * s.length))
/-- The state behind the first n blocks. -/
def after (p : List UInt8) : Nat → List Nat
  | 0 => first
  | n + 1 => block (after p n) ((p.drop (64 * n)).take 64)
def be4 (x : Nat) : List UInt8 := [UInt8.ofNat (x / 16777216 % 256), UInt8.ofNat (x / 65536 % 256), UInt8.ofNat (x / 256 % 256), UInt8.ofNat (x % 256)]
def spell (h : List Nat) : List UInt8 := h.flatMap be4
def sum (s : List UInt8) : List UInt8 := spell (after (pad s) ((pad s).length / 64))
def sign (n : Nat) : UInt8 := UInt8.ofNat (if n < 10 then 48 + n else 87 + n)
def hex (s : List UInt8) : List UInt8 := s.flatMap fun b => [sign (b.toNat / 16), sign (b.toNat % 16)]

theorem shown : hex (sum [97, 98, 99]) = [98, 97, 55, 56, 49, 54, 98, 102, 56, 102, 48, 49, 99, 102, 101, 97, 52, 49, 52, 49, 52, 48, 100, 101, 53, 100, 97, 101, 50, 50, 50, 51, 98, 48, 48, 51, 54, 49, 97, 51, 57, 54, 49, 55, 55, 97, 57, 99, 98, 52, 49, 48, 102, 102, 54, 49, 102, 50, 48, 48, 49, 53, 97, 100] := by decide +kernel
end Sh
