/- ShaMath, ShaRot, ShaRow, ShaSched, ShaBlock, Builder2, ShaPad, ShaSpell, ShaSum, in one. -/
import Derived.Test.YtflmfbcjmjlkbaaGreatDoorGDig
import Derived.Laws.BitsAllLaws
import Derived.Deep.WholeRow
import Derived.Laws.Tables
import Derived.Laws.CopyRow
import Derived.StillTailTactics
import Derived.Test.YtflmfbcjmjlkbaaGreatDoorGBat
import Derived.Shelf.Strings.Builder2
section
/- Chapter 2 (sha), as plain functions over numbers. No program is named here. -/
namespace Sh

/-- A word of 32 bits, turned right. -/
def rot (x n : Nat) : Nat := x / 2 ^ n + x % 2 ^ n * 2 ^ (32 - n)
def big0 (a : Nat) : Nat := (rot a 2 ^^^ rot a 13) ^^^ rot a 22
def big1 (e : Nat) : Nat := (rot e 6 ^^^ rot e 11) ^^^ rot e 25
def sm0 (x : Nat) : Nat := (rot x 7 ^^^ rot x 18) ^^^ x / 8
def sm1 (y : Nat) : Nat := (rot y 17 ^^^ rot y 19) ^^^ y / 1024
def ch (e f g : Nat) : Nat := (e &&& f) ^^^ ((4294967295 - e) &&& g)
def maj (a b c : Nat) : Nat := ((a &&& b) ^^^ (a &&& c)) ^^^ (b &&& c)
def add (a b : Nat) : Nat := (a + b) % 4294967296

/-- The constants. -/
def words : List Nat := [1116352408, 1899447441, 3049323471, 3921009573, 961987163, 1508970993, 2453635748, 2870763221, 3624381080, 310598401, 607225278, 1426881987, 1925078388, 2162078206, 2614888103, 3248222580, 3835390401, 4022224774, 264347078, 604807628, 770255983, 1249150122, 1555081692, 1996064986, 2554220882, 2821834349, 2952996808, 3210313671, 3336571891, 3584528711, 113926993, 338241895, 666307205, 773529912, 1294757372, 1396182291, 1695183700, 1986661051, 2177026350, 2456956037, 2730485921, 2820302411, 3259730800, 3345764771, 3516065817, 3600352804, 4094571909, 275423344, 430227734, 506948616, 659060556, 883997877, 958139571, 1322822218, 1537002063, 1747873779, 1955562222, 2024104815, 2227730452, 2361852424, 2428436474, 2756734187, 3204031479, 3329325298]
def first : List Nat := [1779033703, 3144134277, 1013904242, 2773480762, 1359893119, 2600822924, 528734635, 1541459225]

/-- The word that 4 bytes tell. -/
def word (b : List UInt8) (j : Nat) : Nat := Dg.ofB ((b.drop (4 * j)).take 4)
/-- The next word of the row. -/
def next (w : List Nat) : Nat := add (add (add (w.getD (w.length - 16) 0) (sm0 (w.getD (w.length - 15) 0))) (w.getD (w.length - 7) 0)) (sm1 (w.getD (w.length - 2) 0))
def ext : Nat → List Nat → List Nat
  | 0, w => w
  | n + 1, w => ext n (w ++ [next w])
def head (b : List UInt8) : List Nat := (List.range 16).map (word b)
def sched (b : List UInt8) : List Nat := ext 48 (head b)

/-- The state within a block. -/
abbrev St := Nat × Nat × Nat × Nat × Nat × Nat × Nat × Nat
def ofL (h : List Nat) : St := (h.getD 0 0, h.getD 1 0, h.getD 2 0, h.getD 3 0, h.getD 4 0, h.getD 5 0, h.getD 6 0, h.getD 7 0)
def toL : St → List Nat
  | (a, b, c, d, e, f, g, k) => [a, b, c, d, e, f, g, k]
def tt (e f g k kw w : Nat) : Nat := add (add (add (add k (big1 e)) (ch e f g)) kw) w
def uu (a b c : Nat) : Nat := add (big0 a) (maj a b c)
def step : St → Nat → Nat → St
  | (a, b, c, d, e, f, g, k), kw, w => (add (tt e f g k kw w) (uu a b c), a, b, c, add d (tt e f g k kw w), e, f, g)
/-- The first n rounds. -/
def rounds (s : St) (w : List Nat) : Nat → St
  | 0 => s
  | n + 1 => step (rounds s w n) (words.getD n 0) (w.getD n 0)
def block (h : List Nat) (b : List UInt8) : List Nat := List.zipWith add h (toL (rounds (ofL h) (sched b) 64))

def be8 (n : Nat) : List UInt8 := (List.range 8).map fun i => UInt8.ofNat (n / 2 ^ (8 * (7 - i)) % 256)
def zeros (n : Nat) : Nat := (119 - n % 64) % 64
def pad (s : List UInt8) : List UInt8 := s ++ 128 :: (List.replicate (zeros s.length) 0 ++ be8 (8 * s.length))
/-- The state behind the first n blocks. -/
def after (p : List UInt8) : Nat → List Nat
  | 0 => first
  | n + 1 => block (after p n) ((p.drop (64 * n)).take 64)
def be4 (x : Nat) : List UInt8 := [UInt8.ofNat (x / 16777216 % 256), UInt8.ofNat (x / 65536 % 256), UInt8.ofNat (x / 256 % 256), UInt8.ofNat (x % 256)]
def spell (h : List Nat) : List UInt8 := h.flatMap be4
def sum (s : List UInt8) : List UInt8 := spell (after (pad s) ((pad s).length / 64))
def sign (n : Nat) : UInt8 := UInt8.ofNat (if n < 10 then 48 + n else 87 + n)
def hex (s : List UInt8) : List UInt8 := s.flatMap fun b => [sign (b.toNat / 16), sign (b.toNat % 16)]

theorem shown : hex (sum [97, 98, 99]) = [98, 97, 55, 56, 49, 54, 98, 102, 56, 102, 48, 49, 99, 102, 101, 97, 52, 49, 52, 49, 52, 48, 100, 101, 53, 100, 97, 101, 50, 50, 50, 51, 98, 48, 48, 51, 54, 49, 97, 51, 57, 54, 49, 55, 55, 97, 57, 99, 98, 52, 49, 48, 102, 102, 54, 49, 102, 50, 48, 48, 49, 53, 97, 100] := by decide +kernel
end Sh
end
section
/- Turning a word: the program's, and the document's. -/
namespace Sh
theorem rot_lt (x n : Nat) (hx : x < 4294967296) (hn : n ≤ 32) : rot x n < 4294967296 := by
  have hP := Nat.two_pow_pos n
  have hQ := Nat.two_pow_pos (32 - n)
  have h : 2 ^ n * 2 ^ (32 - n) = 4294967296 := by rw [← Nat.pow_add, show n + (32 - n) = 32 by omega]
  unfold rot
  generalize 2 ^ n = P at *
  generalize 2 ^ (32 - n) = Q at *
  have h1 : x / P < Q := Nat.div_lt_of_lt_mul (by rw [h]; exact hx)
  have h2 : x % P < P := Nat.mod_lt _ hP
  have h3 : (x % P + 1) * Q ≤ P * Q := Nat.mul_le_mul_right Q h2
  rw [Nat.add_mul, Nat.one_mul] at h3
  omega
end Sh
namespace Go.Proofs.YtflmfbcjmjlkbaaGreatDoor
open Go.RowKit

/-- A word as a value. -/
abbrev uv (n : Nat) : Value := .int .u32 (n : Int)

theorem rot_or (x n P Q : Nat) (hx : x < 4294967296) (hP : P = 2 ^ n) (hQ : Q = 2 ^ (32 - n)) (hn : n ≤ 32) :
    bits .or .u32 ((x : Int) * (Q : Int) % 4294967296) ((x : Int) / (P : Int)) = (Sh.rot x n : Int) := by
  have h : P * Q = 4294967296 := by rw [hP, hQ, ← Nat.pow_add, show n + (32 - n) = 32 by omega]
  have hPp : 0 < P := by rw [hP]; exact Nat.two_pow_pos n
  have hQp : 0 < Q := by rw [hQ]; exact Nat.two_pow_pos _
  have e1 : (x : Int) * (Q : Int) % 4294967296 = ((x % P * Q : Nat) : Int) := by
    have : (x * Q) % (P * Q) = x % P * Q := Nat.mul_mod_mul_right ..
    rw [h] at this
    rw [← this]
    simp
  have e2 : (x : Int) / (P : Int) = ((x / P : Nat) : Int) := by simp
  have h1 : x / P < Q := Nat.div_lt_of_lt_mul (by rw [h]; exact hx)
  have h2 : x % P < P := Nat.mod_lt _ hPp
  have h3 : (x % P + 1) * Q ≤ P * Q := Nat.mul_le_mul_right Q h2
  rw [Nat.add_mul, Nat.one_mul] at h3
  rw [e1, e2, u32_or_nat _ _ (by omega) (by omega), nat_join (32 - n) _ _ (by rw [hQ]; exact Nat.mul_mod_left ..) (by rw [← hQ]; exact h1)]
  rw [Sh.rot, ← hP, ← hQ]
  congr 1
  omega

set_option maxHeartbeats 1000000 in
theorem pright2 (x : Nat) (hx : x < 4294967296) (w : World) :
    Calls Tryz.prog 108 #[uv x, .int .i64 2] w fun e w' => e = .returned (uv (Sh.rot x 2)) ∧ w' = w := by
  have hr : Calls Tryz.prog 114 #[uv x, .int .i64 (-2)] w fun e w' => e = .returned (uv (Sh.rot x 2)) ∧ w' = w := by
    have hb : bits .and .u64 (IntKind.u64.wrap (-2)) 31 = 30 := by decide
    have e : bits .or .u32 ((x : Int) * 1073741824 % 4294967296) ((x : Int) / 4) = (Sh.rot x 2 : Int) := rot_or x 2 4 1073741824 hx rfl rfl (by decide)
    have HE := Lib.hid e
    clear e
    go_enter Tryz.func114, Tryz.ntmps114
    go_wp2
    go_ret
    exact ⟨congrArg (fun z => Ending.returned (.int .u32 z)) HE.out, rfl⟩
  go_enter Tryz.func108, Tryz.ntmps108
  go_wp2_with fail
  refine hr.mono ?_
  rintro e w1 ⟨rfl, rfl⟩
  go_wp2
  go_ret
  exact ⟨rfl, rfl⟩

set_option maxHeartbeats 1000000 in
theorem pright6 (x : Nat) (hx : x < 4294967296) (w : World) :
    Calls Tryz.prog 108 #[uv x, .int .i64 6] w fun e w' => e = .returned (uv (Sh.rot x 6)) ∧ w' = w := by
  have hr : Calls Tryz.prog 114 #[uv x, .int .i64 (-6)] w fun e w' => e = .returned (uv (Sh.rot x 6)) ∧ w' = w := by
    have hb : bits .and .u64 (IntKind.u64.wrap (-6)) 31 = 26 := by decide
    have e : bits .or .u32 ((x : Int) * 67108864 % 4294967296) ((x : Int) / 64) = (Sh.rot x 6 : Int) := rot_or x 6 64 67108864 hx rfl rfl (by decide)
    have HE := Lib.hid e
    clear e
    go_enter Tryz.func114, Tryz.ntmps114
    go_wp2
    go_ret
    exact ⟨congrArg (fun z => Ending.returned (.int .u32 z)) HE.out, rfl⟩
  go_enter Tryz.func108, Tryz.ntmps108
  go_wp2_with fail
  refine hr.mono ?_
  rintro e w1 ⟨rfl, rfl⟩
  go_wp2
  go_ret
  exact ⟨rfl, rfl⟩

set_option maxHeartbeats 1000000 in
theorem pright7 (x : Nat) (hx : x < 4294967296) (w : World) :
    Calls Tryz.prog 108 #[uv x, .int .i64 7] w fun e w' => e = .returned (uv (Sh.rot x 7)) ∧ w' = w := by
  have hr : Calls Tryz.prog 114 #[uv x, .int .i64 (-7)] w fun e w' => e = .returned (uv (Sh.rot x 7)) ∧ w' = w := by
    have hb : bits .and .u64 (IntKind.u64.wrap (-7)) 31 = 25 := by decide
    have e : bits .or .u32 ((x : Int) * 33554432 % 4294967296) ((x : Int) / 128) = (Sh.rot x 7 : Int) := rot_or x 7 128 33554432 hx rfl rfl (by decide)
    have HE := Lib.hid e
    clear e
    go_enter Tryz.func114, Tryz.ntmps114
    go_wp2
    go_ret
    exact ⟨congrArg (fun z => Ending.returned (.int .u32 z)) HE.out, rfl⟩
  go_enter Tryz.func108, Tryz.ntmps108
  go_wp2_with fail
  refine hr.mono ?_
  rintro e w1 ⟨rfl, rfl⟩
  go_wp2
  go_ret
  exact ⟨rfl, rfl⟩

set_option maxHeartbeats 1000000 in
theorem pright11 (x : Nat) (hx : x < 4294967296) (w : World) :
    Calls Tryz.prog 108 #[uv x, .int .i64 11] w fun e w' => e = .returned (uv (Sh.rot x 11)) ∧ w' = w := by
  have hr : Calls Tryz.prog 114 #[uv x, .int .i64 (-11)] w fun e w' => e = .returned (uv (Sh.rot x 11)) ∧ w' = w := by
    have hb : bits .and .u64 (IntKind.u64.wrap (-11)) 31 = 21 := by decide
    have e : bits .or .u32 ((x : Int) * 2097152 % 4294967296) ((x : Int) / 2048) = (Sh.rot x 11 : Int) := rot_or x 11 2048 2097152 hx rfl rfl (by decide)
    have HE := Lib.hid e
    clear e
    go_enter Tryz.func114, Tryz.ntmps114
    go_wp2
    go_ret
    exact ⟨congrArg (fun z => Ending.returned (.int .u32 z)) HE.out, rfl⟩
  go_enter Tryz.func108, Tryz.ntmps108
  go_wp2_with fail
  refine hr.mono ?_
  rintro e w1 ⟨rfl, rfl⟩
  go_wp2
  go_ret
  exact ⟨rfl, rfl⟩

set_option maxHeartbeats 1000000 in
theorem pright13 (x : Nat) (hx : x < 4294967296) (w : World) :
    Calls Tryz.prog 108 #[uv x, .int .i64 13] w fun e w' => e = .returned (uv (Sh.rot x 13)) ∧ w' = w := by
  have hr : Calls Tryz.prog 114 #[uv x, .int .i64 (-13)] w fun e w' => e = .returned (uv (Sh.rot x 13)) ∧ w' = w := by
    have hb : bits .and .u64 (IntKind.u64.wrap (-13)) 31 = 19 := by decide
    have e : bits .or .u32 ((x : Int) * 524288 % 4294967296) ((x : Int) / 8192) = (Sh.rot x 13 : Int) := rot_or x 13 8192 524288 hx rfl rfl (by decide)
    have HE := Lib.hid e
    clear e
    go_enter Tryz.func114, Tryz.ntmps114
    go_wp2
    go_ret
    exact ⟨congrArg (fun z => Ending.returned (.int .u32 z)) HE.out, rfl⟩
  go_enter Tryz.func108, Tryz.ntmps108
  go_wp2_with fail
  refine hr.mono ?_
  rintro e w1 ⟨rfl, rfl⟩
  go_wp2
  go_ret
  exact ⟨rfl, rfl⟩

set_option maxHeartbeats 1000000 in
theorem pright17 (x : Nat) (hx : x < 4294967296) (w : World) :
    Calls Tryz.prog 108 #[uv x, .int .i64 17] w fun e w' => e = .returned (uv (Sh.rot x 17)) ∧ w' = w := by
  have hr : Calls Tryz.prog 114 #[uv x, .int .i64 (-17)] w fun e w' => e = .returned (uv (Sh.rot x 17)) ∧ w' = w := by
    have hb : bits .and .u64 (IntKind.u64.wrap (-17)) 31 = 15 := by decide
    have e : bits .or .u32 ((x : Int) * 32768 % 4294967296) ((x : Int) / 131072) = (Sh.rot x 17 : Int) := rot_or x 17 131072 32768 hx rfl rfl (by decide)
    have HE := Lib.hid e
    clear e
    go_enter Tryz.func114, Tryz.ntmps114
    go_wp2
    go_ret
    exact ⟨congrArg (fun z => Ending.returned (.int .u32 z)) HE.out, rfl⟩
  go_enter Tryz.func108, Tryz.ntmps108
  go_wp2_with fail
  refine hr.mono ?_
  rintro e w1 ⟨rfl, rfl⟩
  go_wp2
  go_ret
  exact ⟨rfl, rfl⟩

set_option maxHeartbeats 1000000 in
theorem pright18 (x : Nat) (hx : x < 4294967296) (w : World) :
    Calls Tryz.prog 108 #[uv x, .int .i64 18] w fun e w' => e = .returned (uv (Sh.rot x 18)) ∧ w' = w := by
  have hr : Calls Tryz.prog 114 #[uv x, .int .i64 (-18)] w fun e w' => e = .returned (uv (Sh.rot x 18)) ∧ w' = w := by
    have hb : bits .and .u64 (IntKind.u64.wrap (-18)) 31 = 14 := by decide
    have e : bits .or .u32 ((x : Int) * 16384 % 4294967296) ((x : Int) / 262144) = (Sh.rot x 18 : Int) := rot_or x 18 262144 16384 hx rfl rfl (by decide)
    have HE := Lib.hid e
    clear e
    go_enter Tryz.func114, Tryz.ntmps114
    go_wp2
    go_ret
    exact ⟨congrArg (fun z => Ending.returned (.int .u32 z)) HE.out, rfl⟩
  go_enter Tryz.func108, Tryz.ntmps108
  go_wp2_with fail
  refine hr.mono ?_
  rintro e w1 ⟨rfl, rfl⟩
  go_wp2
  go_ret
  exact ⟨rfl, rfl⟩

set_option maxHeartbeats 1000000 in
theorem pright19 (x : Nat) (hx : x < 4294967296) (w : World) :
    Calls Tryz.prog 108 #[uv x, .int .i64 19] w fun e w' => e = .returned (uv (Sh.rot x 19)) ∧ w' = w := by
  have hr : Calls Tryz.prog 114 #[uv x, .int .i64 (-19)] w fun e w' => e = .returned (uv (Sh.rot x 19)) ∧ w' = w := by
    have hb : bits .and .u64 (IntKind.u64.wrap (-19)) 31 = 13 := by decide
    have e : bits .or .u32 ((x : Int) * 8192 % 4294967296) ((x : Int) / 524288) = (Sh.rot x 19 : Int) := rot_or x 19 524288 8192 hx rfl rfl (by decide)
    have HE := Lib.hid e
    clear e
    go_enter Tryz.func114, Tryz.ntmps114
    go_wp2
    go_ret
    exact ⟨congrArg (fun z => Ending.returned (.int .u32 z)) HE.out, rfl⟩
  go_enter Tryz.func108, Tryz.ntmps108
  go_wp2_with fail
  refine hr.mono ?_
  rintro e w1 ⟨rfl, rfl⟩
  go_wp2
  go_ret
  exact ⟨rfl, rfl⟩

set_option maxHeartbeats 1000000 in
theorem pright22 (x : Nat) (hx : x < 4294967296) (w : World) :
    Calls Tryz.prog 108 #[uv x, .int .i64 22] w fun e w' => e = .returned (uv (Sh.rot x 22)) ∧ w' = w := by
  have hr : Calls Tryz.prog 114 #[uv x, .int .i64 (-22)] w fun e w' => e = .returned (uv (Sh.rot x 22)) ∧ w' = w := by
    have hb : bits .and .u64 (IntKind.u64.wrap (-22)) 31 = 10 := by decide
    have e : bits .or .u32 ((x : Int) * 1024 % 4294967296) ((x : Int) / 4194304) = (Sh.rot x 22 : Int) := rot_or x 22 4194304 1024 hx rfl rfl (by decide)
    have HE := Lib.hid e
    clear e
    go_enter Tryz.func114, Tryz.ntmps114
    go_wp2
    go_ret
    exact ⟨congrArg (fun z => Ending.returned (.int .u32 z)) HE.out, rfl⟩
  go_enter Tryz.func108, Tryz.ntmps108
  go_wp2_with fail
  refine hr.mono ?_
  rintro e w1 ⟨rfl, rfl⟩
  go_wp2
  go_ret
  exact ⟨rfl, rfl⟩

set_option maxHeartbeats 1000000 in
theorem pright25 (x : Nat) (hx : x < 4294967296) (w : World) :
    Calls Tryz.prog 108 #[uv x, .int .i64 25] w fun e w' => e = .returned (uv (Sh.rot x 25)) ∧ w' = w := by
  have hr : Calls Tryz.prog 114 #[uv x, .int .i64 (-25)] w fun e w' => e = .returned (uv (Sh.rot x 25)) ∧ w' = w := by
    have hb : bits .and .u64 (IntKind.u64.wrap (-25)) 31 = 7 := by decide
    have e : bits .or .u32 ((x : Int) * 128 % 4294967296) ((x : Int) / 33554432) = (Sh.rot x 25 : Int) := rot_or x 25 33554432 128 hx rfl rfl (by decide)
    have HE := Lib.hid e
    clear e
    go_enter Tryz.func114, Tryz.ntmps114
    go_wp2
    go_ret
    exact ⟨congrArg (fun z => Ending.returned (.int .u32 z)) HE.out, rfl⟩
  go_enter Tryz.func108, Tryz.ntmps108
  go_wp2_with fail
  refine hr.mono ?_
  rintro e w1 ⟨rfl, rfl⟩
  go_wp2
  go_ret
  exact ⟨rfl, rfl⟩

set_option maxHeartbeats 1000000 in
theorem rturn_any (x n : Nat) (hx : x < 4294967296) (h1 : 1 ≤ n) (h2 : n ≤ 31) (w : World) :
    Calls Tryz.prog 85 #[uv x, .int .i64 n] w fun e w' => e = .returned (uv (Sh.rot x n)) ∧ w' = w := by
  go_enter Tryz.func85, Tryz.ntmps85
  go_wp2_with fail
  go_loopw [5, 6] (fun p i wr => ∃ k m : Nat, i = .int .i64 k ∧ k ≤ n ∧ m = 2 ^ k ∧ p = uv m ∧ wr = w) (fun _ i _ => n - (intOf i).toNat)
  case atStart => exact ⟨0, 1, rfl, by omega, rfl, rfl, rfl⟩
  case round =>
    obtain ⟨k, m, rfl, hk, hm, rfl, rfl⟩ := hrel
    by_cases hlt : k < n
    · have hb : m * 2 ≤ 2147483648 := by
        have : 2 ^ (k + 1) ≤ 2 ^ 31 := Nat.pow_le_pow_right (by omega) (by omega)
        rw [Nat.pow_succ, ← hm] at this
        omega
      have hm' : m * 2 = 2 ^ (k + 1) := by rw [Nat.pow_succ, hm]
      have HM := Lib.hid hm'
      clear hm hm'
      go_wp2
      go_roundw
      case rel => exact ⟨k + 1, m * 2, by go_num, hlt, HM.out, by simp [uv], trivial⟩
      case measure => simp [intOf]; omega
    · obtain rfl : k = n := by omega
      have HM := Lib.hid hm
      have hm0 : m ≠ 0 := by rw [hm]; have := Nat.two_pow_pos k; omega
      clear hm
      have hr0 : x % m < m := Nat.mod_lt _ (by omega)
      have hq0 : x / m + x % m * 2 ^ (32 - k) = Sh.rot x k := by rw [Sh.rot, ← HM.out]
      have HQ := Lib.hid hq0
      have hlt32 := Sh.rot_lt x k hx (by omega)
      have hmul : m * 2 ^ (32 - k) = 4294967296 := by rw [HM.out, ← Nat.pow_add, show k + (32 - k) = 32 by omega]
      have HL := Lib.hid hmul
      have hdec : ((x % m : Nat) : Int) = (x : Int) % (m : Int) := by simp
      obtain ⟨r, hr⟩ : ∃ r, x % m = r := ⟨_, rfl⟩
      rw [hr] at hr0 hq0 hdec
      have HRR := Lib.hid hr
      have HDD := Lib.hid hdec
      have HQ := Lib.hid hq0
      clear hq0 hmul hr hdec
      go_wp2_with fail
      rw [← HDD.out]
      go_loopw [7, 8] (fun p i w2 => ∃ j l : Nat, i = .int .i64 j ∧ j ≤ 32 - k ∧ l = r * 2 ^ j ∧ p = uv l ∧ w2 = wr) (fun _ i _ => 32 - k - (intOf i).toNat)
      case atStart => exact ⟨0, r, rfl, by omega, by simp, rfl, rfl⟩
      case round =>
        obtain ⟨j, l, rfl, hj, hl, rfl, rfl⟩ := hrel
        by_cases hlt : j < 32 - k
        · have hb : l * 2 < 4294967296 := by
            have h1 : r * 2 ^ (j + 1) < m * 2 ^ (32 - k) := by
              have h2 : 2 ^ (j + 1) ≤ 2 ^ (32 - k) := Nat.pow_le_pow_right (by omega) hlt
              have h3 := Nat.two_pow_pos (j + 1)
              calc r * 2 ^ (j + 1) < m * 2 ^ (j + 1) := Nat.mul_lt_mul_of_pos_right hr0 h3
                _ ≤ m * 2 ^ (32 - k) := Nat.mul_le_mul_left _ h2
            rw [HL.out, Nat.pow_succ, ← Nat.mul_assoc, ← hl] at h1
            exact h1
          have HLL := Lib.hid (show l * 2 = r * 2 ^ (j + 1) by rw [Nat.pow_succ, ← Nat.mul_assoc, hl])
          have t1 : decide ((j : Int) < 32 - (k : Int)) = true := decide_eq_true (by omega)
          clear hl
          go_wp2
          go_roundw
          case rel => exact ⟨j + 1, l * 2, by go_num, hlt, HLL.out, by simp [uv], trivial⟩
          case measure => simp [intOf]; omega
        · obtain rfl : j = 32 - k := by omega
          have HLL := Lib.hid hl
          have t1 : decide ((((32 - k : Nat)) : Int) < 32 - (k : Int)) = false := decide_eq_false (by omega)
          have t2 : x / m + l < 4294967296 := by rw [hl, HQ.out]; exact hlt32
          have t3 : ((x : Int) / (m : Int) % 4294967296 + (l : Int)) % 4294967296 = ((x / m + l : Nat) : Int) := by
            have e : (x : Int) / (m : Int) = ((x / m : Nat) : Int) := by simp
            rw [e]
            generalize x / m = z at *
            omega
          have T3 := Lib.hid t3
          clear hl t3 t2
          go_wp2
          go_ret
          exact ⟨by rw [← HQ.out, ← HLL.out]; exact congrArg (fun z => Ending.returned (.int .u32 z)) T3.out, rfl⟩

theorem div2 (x k : Nat) : x / 2 ^ (k + 1) = x / 2 ^ k / 2 := by rw [Nat.pow_succ, Nat.div_div_eq_div_mul]
set_option maxHeartbeats 1000000 in
theorem rover_any (x n : Nat) (hx : x < 4294967296) (h2 : n ≤ 31) (w : World) :
    Calls Tryz.prog 86 #[uv x, .int .i64 n] w fun e w' => e = .returned (uv (x / 2 ^ n)) ∧ w' = w := by
  go_enter Tryz.func86, Tryz.ntmps86
  go_wp2_with fail
  go_loopw [0, 5] (fun p i wr => ∃ k m : Nat, i = .int .i64 k ∧ k ≤ n ∧ m < 4294967296 ∧ m = x / 2 ^ k ∧ p = uv m ∧ wr = w) (fun _ i _ => n - (intOf i).toNat)
  case atStart => exact ⟨0, x, rfl, by omega, hx, by simp, rfl, rfl⟩
  case round =>
    obtain ⟨k, m, rfl, hk, hml, hm, rfl, rfl⟩ := hrel
    by_cases hlt : k < n
    · have HM := Lib.hid (show m / 2 = x / 2 ^ (k + 1) by rw [div2, ← hm])
      clear hm
      go_wp2
      go_roundw
      case rel => exact ⟨k + 1, m / 2, by go_num, hlt, by omega, HM.out, by simp [uv], trivial⟩
      case measure => simp [intOf]; omega
    · obtain rfl : k = n := by omega
      have HM := Lib.hid hm
      clear hm
      go_wp2
      go_ret
      exact ⟨by rw [← HM.out]; rfl, rfl⟩
end Go.Proofs.YtflmfbcjmjlkbaaGreatDoor
end
section
/- Arrays of words in blocks of their own. -/
namespace Sh
/-- What of a block's word j is there behind the first k bytes. -/
def part (b : List UInt8) (k j : Nat) : Nat := Dg.ofB (((b.take k).drop (4 * j)).take 4)
def parts (b : List UInt8) (k : Nat) : List Nat := (List.range 64).map (part b k)
theorem parts_len (b : List UInt8) (k : Nat) : (parts b k).length = 64 := by simp [parts]
theorem part_lt (b : List UInt8) (k j : Nat) : part b k j < 4294967296 := by
  have h := Dg.ofB_lt (((b.take k).drop (4 * j)).take 4)
  have h2 : 256 ^ (((b.take k).drop (4 * j)).take 4).length ≤ 256 ^ 4 := Nat.pow_le_pow_right (by decide) (List.length_take_le _ _)
  unfold part
  have : (256 : Nat) ^ 4 = 4294967296 := by decide
  omega
theorem part_small (b : List UInt8) (k : Nat) : part b k (k / 4) < 16777216 := by
  have h := Dg.ofB_lt (((b.take k).drop (4 * (k / 4))).take 4)
  have h3 : (((b.take k).drop (4 * (k / 4))).take 4).length ≤ 3 := by simp; omega
  have h2 : 256 ^ (((b.take k).drop (4 * (k / 4))).take 4).length ≤ 256 ^ 3 := Nat.pow_le_pow_right (by decide) h3
  unfold part
  have : (256 : Nat) ^ 3 = 16777216 := by decide
  omega
theorem parts_zero (b : List UInt8) : parts b 0 = List.replicate 64 0 := by
  rw [List.eq_replicate_iff]
  refine ⟨parts_len _ _, fun x hx => ?_⟩
  simp only [parts, List.mem_map] at hx
  obtain ⟨j, _, rfl⟩ := hx
  simp [part, Dg.ofB]
theorem part_here (b : List UInt8) (k : Nat) (h : k < b.length) : part b (k + 1) (k / 4) = part b k (k / 4) * 256 + b[k].toNat := by
  have e1 : (b.take (k + 1)).drop (4 * (k / 4)) = (b.take k).drop (4 * (k / 4)) ++ [b[k]] := by
    rw [List.take_succ_eq_append_getElem h, List.drop_append_of_le_length (by simp; omega)]
  have hl : ((b.take k).drop (4 * (k / 4))).length ≤ 3 := by simp; omega
  unfold part
  rw [e1]
  generalize (b.take k).drop (4 * (k / 4)) = X at *
  rw [List.take_of_length_le (l := X) (by omega), List.take_of_length_le (by simp; omega), Dg.ofB_snoc]
theorem part_there (b : List UInt8) (k j : Nat) (h : k < b.length) (hj : j ≠ k / 4) : part b (k + 1) j = part b k j := by
  unfold part
  by_cases h1 : 4 * j + 4 ≤ k
  · congr 1
    rw [List.take_succ_eq_append_getElem h, List.drop_append_of_le_length (by simp; omega), List.take_append_of_le_length (by simp; omega)]
  · have h2 : k + 1 ≤ 4 * j := by omega
    rw [List.drop_of_length_le (by simp; omega), List.drop_of_length_le (by simp; omega)]
theorem parts_step (b : List UInt8) (k : Nat) (h : k < b.length) : (parts b k).set (k / 4) (part b k (k / 4) * 256 + b[k].toNat) = parts b (k + 1) := by
  apply List.ext_getElem
  · simp [parts]
  · intro j h1 h2
    rw [List.getElem_set]
    by_cases e : k / 4 = j
    · subst e
      rw [if_pos rfl]
      simp only [parts, List.getElem_map, List.getElem_range]
      exact (part_here b k h).symm
    · rw [if_neg e]
      simp only [parts, List.getElem_map, List.getElem_range]
      exact (part_there b k j h (fun h => e h.symm)).symm
theorem parts_done (b : List UInt8) (h : b.length = 64) : parts b 64 = head b ++ List.replicate 48 0 := by
  have e : List.replicate 48 0 = (List.range 48).map (fun i => part b 64 (16 + i)) := by
    symm
    rw [List.eq_replicate_iff]
    refine ⟨by simp, fun x hx => ?_⟩
    simp only [List.mem_map] at hx
    obtain ⟨j, _, rfl⟩ := hx
    unfold part
    rw [List.drop_of_length_le (by simp; omega)]
    simp [Dg.ofB]
  have e2 : head b = (List.range 16).map (part b 64) := by
    unfold head
    apply List.map_congr_left
    intro j _
    have e3 : b.take 64 = b := List.take_of_length_le (by omega)
    unfold part word
    rw [e3]
  rw [e, e2, parts]
  have : List.range 64 = List.range 16 ++ (List.range 48).map (16 + ·) := by decide
  rw [this, List.map_append, List.map_map]
  rfl

theorem ext_succ (n : Nat) : ∀ w, ext (n + 1) w = ext n w ++ [next (ext n w)] := by
  induction n with
  | zero => intro w; rfl
  | succ n ih => intro w; rw [ext, ih (w ++ [next w])]; rfl
theorem head_len (b : List UInt8) : (head b).length = 16 := by simp [head]
theorem ext_len (n : Nat) : ∀ w, (ext n w).length = w.length + n := by
  induction n with
  | zero => intro w; rfl
  | succ n ih => intro w; rw [ext, ih]; simp; omega
theorem sched_len (b : List UInt8) : (sched b).length = 64 := by rw [sched, ext_len, head_len]
/-- The row behind m words more. -/
def filled (b : List UInt8) (m : Nat) : List Nat := ext m (head b) ++ List.replicate (48 - m) 0
theorem filled_len (b : List UInt8) (m : Nat) (h : m ≤ 48) : (filled b m).length = 64 := by rw [filled, List.length_append, ext_len, head_len]; simp; omega
theorem filled_step (b : List UInt8) (m : Nat) (h : m < 48) : (filled b m).set (m + 16) (next (ext m (head b))) = filled b (m + 1) := by
  have e : List.replicate (48 - m) 0 = 0 :: List.replicate (48 - (m + 1)) 0 := by
    obtain ⟨j, hj⟩ : ∃ j, 48 - m = j + 1 := ⟨48 - m - 1, by omega⟩
    rw [hj, List.replicate_succ]
    congr 2
    omega
  have hl : (ext m (head b)).length = m + 16 := by rw [ext_len, head_len]; omega
  rw [filled, filled, ext_succ, e, List.set_append_right _ _ (by omega), hl, Nat.sub_self, List.set_cons_zero, List.append_assoc]
  rfl
theorem filled_at (b : List UInt8) (m j : Nat) (h : j < m + 16) (h48 : m ≤ 48) : (filled b m)[j]'(by rw [filled_len b m h48]; omega) = (ext m (head b)).getD j 0 := by
  have hl : (ext m (head b)).length = m + 16 := by rw [ext_len, head_len]; omega
  simp only [filled]
  rw [List.getElem_append_left (by omega)]
  simp [List.getD, List.getElem?_eq_getElem (show j < (ext m (head b)).length by omega)]
theorem word_lt (b : List UInt8) (j : Nat) : word b j < 4294967296 := by
  have h := Dg.ofB_lt ((b.drop (4 * j)).take 4)
  have h2 : 256 ^ ((b.drop (4 * j)).take 4).length ≤ 256 ^ 4 := Nat.pow_le_pow_right (by decide) (List.length_take_le _ _)
  unfold word
  have : (256 : Nat) ^ 4 = 4294967296 := by decide
  omega
theorem add_lt (a b : Nat) : add a b < 4294967296 := Nat.mod_lt _ (by decide)
theorem ext_lt (n : Nat) : ∀ w : List Nat, (∀ x ∈ w, x < 4294967296) → ∀ x ∈ ext n w, x < 4294967296 := by
  induction n with
  | zero => intro w h; exact h
  | succ n ih =>
    intro w h
    rw [ext]
    apply ih
    intro x hx
    rcases List.mem_append.1 hx with hx | hx
    · exact h x hx
    · rw [List.mem_singleton.1 hx]; exact add_lt _ _
theorem head_lt (b : List UInt8) : ∀ x ∈ head b, x < 4294967296 := by
  intro x hx
  simp only [head, List.mem_map] at hx
  obtain ⟨j, _, rfl⟩ := hx
  exact word_lt b j
theorem sched_lt (b : List UInt8) : ∀ x ∈ sched b, x < 4294967296 := ext_lt 48 _ (head_lt b)
theorem getD_lt (w : List Nat) (h : ∀ x ∈ w, x < 4294967296) (j : Nat) : w.getD j 0 < 4294967296 := by
  by_cases hj : j < w.length
  · rw [List.getD, List.getElem?_eq_getElem hj]; exact h _ (List.getElem_mem hj)
  · rw [List.getD, List.getElem?_eq_none (by omega)]; decide
end Sh
namespace Go.Proofs.YtflmfbcjmjlkbaaGreatDoor
open Go.RowKit

/-- The block B holds the words ws. -/
def ARow (W : World) (B : Nat) (t : TypeId) (ws : List Nat) : Prop := W.heap[B]? = some (.cells (ws.map uv).toArray t (0, 0))
theorem ARow.lt {W : World} {B : Nat} {t : TypeId} {ws : List Nat} (h : ARow W B t ws) : B < W.heap.size := (Array.getElem?_eq_some_iff.1 h).1
theorem ARow.cell {W : World} {B : Nat} {t : TypeId} {ws : List Nat} (h : ARow W B t ws) (i : Nat) (hi : i < ws.length) : W.cell? ⟨B, i, none⟩ = some (uv ws[i]) := by
  have e : W.heap[B]? = _ := h
  simp [World.cell?, e, hi]
theorem ARow.frozen {W : World} {B : Nat} {t : TypeId} {ws : List Nat} (h : ARow W B t ws) (i : Nat) : W.frozen? ⟨B, i, none⟩ = false := by
  have e : W.heap[B]? = _ := h
  simp [World.frozen?, e]
theorem ARow.below {W W' : World} {B n : Nat} {t : TypeId} {ws : List Nat} (h : ARow W B t ws) (hb : Below n W W') (hn : B < n) : ARow W' B t ws := (hb.block B hn).trans h
theorem ARow.kept {W W' : World} {B : Nat} {t : TypeId} {ws : List Nat} (h : ARow W B t ws) (hb : Below W.heap.size W W') : ARow W' B t ws := h.below hb h.lt
theorem ARow.alloc {W : World} {B : Nat} {t : TypeId} {ws : List Nat} (h : ARow W B t ws) (o : Obj) : ARow (W.alloc o) B t ws := h.kept ((Below.refl _ _).alloc (Nat.le_refl _) o)
theorem ARow.set {W : World} {B : Nat} {t : TypeId} {ws : List Nat} (h : ARow W B t ws) (i v : Nat) : ARow (W.setCell ⟨B, i, none⟩ (uv v)) B t (ws.set i v) := by
  obtain ⟨hlt, hk⟩ := Array.getElem?_eq_some_iff.1 h
  show (W.heap.modify B _)[B]? = _
  rw [Array.getElem?_eq_getElem (by rw [Array.size_modify]; exact hlt), Array.getElem_modify_self, hk]
  simp [List.map_set]
theorem ARow.other {W : World} {B : Nat} {t : TypeId} {ws : List Nat} (h : ARow W B t ws) (C i : Nat) (v : Value) (hne : B ≠ C) : ARow (W.setCell ⟨C, i, none⟩ v) B t ws := (Below.heap_setCell W ⟨C, i, none⟩ v B hne).trans h
theorem ARow.new (W : World) (t : TypeId) (ws : List Nat) : ARow (W.alloc (.cells (ws.map uv).toArray t)) W.heap.size t ws := heap_alloc_last W _
theorem ARow.draw {W : World} {B : Nat} {t : TypeId} {ws : List Nat} (h : ARow W B t ws) (n : Nat) : ARow (W.drewN n) B t ws := h

theorem ARow.heap {W : World} {B : Nat} {t : TypeId} {ws : List Nat} (h : ARow W B t ws) : W.heap[B]? = some (.cells (ws.map uv).toArray t (0, 0)) := h
/-- A whole array is loaded. -/
theorem load_arow {P : Program} {ops : Array Oper} {rest : List Oper} {o : Oper} {a : Act} {w : World} {Q : Exit → Act → World → Prop} (hgd : o.guard = none) (ty : TypeId) (x : Operand) (ho : o.op = .load ty x)
    (g : Nat) (ws : List Nat) (hx : a.eval x = .pointer (some ⟨g, 0, none⟩)) (hg : ARow w g ty ws) (n : Nat) (e : TypeId)
    (hu : P.underlying ty = some (.array n e)) (hi : (P.info? ty).map (·.size) = some n) (hn : ws.length = n)
    (h : wpList P ops Q rest (a.put o.dst (.agg (ws.map uv).toArray)) w) : wpList P ops Q (o :: rest) a w :=
  wpList_load_row hgd ty x ho g hx ty _ (0, 0) _ hg hu rfl (by rw [hi]; simp [hn]) h
/-- A whole array is stored. -/
theorem store_arow {P : Program} {ops : Array Oper} {rest : List Oper} {o : Oper} {a : Act} {w : World} {Q : Exit → Act → World → Prop} (hgd : o.guard = none) (ty : TypeId) (x y : Operand) (ho : o.op = .store ty x y)
    (g : Nat) (ws us : List Nat) (hx : a.eval x = .pointer (some ⟨g, 0, none⟩)) (hy : a.eval y = .agg (us.map uv).toArray) (hg : ARow w g ty ws) (n : Nat)
    (hi : (P.info? ty).map (·.size) = some n) (hw : ws.length = n) (hn : us.length = n)
    (h : ∀ w', ARow w' g ty us → (∀ m c, m ≤ g → Below m c w → Below m c w') → (∀ B t vs, B ≠ g → ARow w B t vs → ARow w' B t vs) → wpList P ops Q rest (a.put o.dst undef) w') : wpList P ops Q (o :: rest) a w :=
  wpList_store_row hgd ty x y ho g _ hx hy ty _ hg (by rw [hi]; simp [hn]) (by simp [hw, hn]) (by simp [Value.oneCell'])
    (h _ (setRow_heap w g _ _ ty (0, 0) hg)
      (fun _ _ hm hb => ⟨hb.os, hb.tape, hb.output, by simpa using hb.size, fun k hk => (setRow_other w g k _ (by omega)).trans (hb.block k hk)⟩)
      (fun B _ _ hB hr => (setRow_other w g B _ hB).trans hr))
theorem info64 : (Tryz.prog.info? 129).map (·.size) = some 64 := by kernel_rfl
theorem info8 : (Tryz.prog.info? 94).map (·.size) = some 8 := by kernel_rfl
end Go.Proofs.YtflmfbcjmjlkbaaGreatDoor
end
section
/- The words of a block, as the program makes them. -/
namespace Go.Proofs.YtflmfbcjmjlkbaaGreatDoor
open Go.RowKit
attribute [local go_sem] byte_at

theorem or_word (v : Nat) (y : UInt8) (h : v < 16777216) : bits .or .u32 (IntKind.u32.wrap ((v : Int) * 256)) (IntKind.u32.wrap (y.toNat : Int)) = ((v * 256 + y.toNat : Nat) : Int) := by
  have hy := y.toNat_lt
  have e1 : IntKind.u32.wrap ((v : Int) * 256) = ((v * 256 : Nat) : Int) := by rw [IntKind.wrap_u32']; omega
  have e2 : IntKind.u32.wrap (y.toNat : Int) = ((y.toNat : Nat) : Int) := by rw [IntKind.wrap_u32']; omega
  rw [e1, e2, u32_or_nat _ _ (by omega) (by omega), nat_join 8 _ _ (by omega) (by omega)]

theorem xor_lt {a b : Nat} (ha : a < 4294967296) (hb : b < 4294967296) : a ^^^ b < 4294967296 := Nat.xor_lt_two_pow (n := 32) ha hb
theorem sm0_bits (x : Nat) (hx : x < 4294967296) : bits .xor .u32 (bits .xor .u32 (Sh.rot x 7 : Int) (Sh.rot x 18 : Int)) ((x : Int) / 8) = (Sh.sm0 x : Int) := by
  have h1 := Sh.rot_lt x 7 hx (by decide)
  have h2 := Sh.rot_lt x 18 hx (by decide)
  have e : (x : Int) / 8 = ((x / 8 : Nat) : Int) := by simp
  rw [u32_xor_nat _ _ h1 h2, e, u32_xor_nat _ _ (xor_lt h1 h2) (by omega)]
  rfl
theorem sm1_bits (x : Nat) (hx : x < 4294967296) : bits .xor .u32 (bits .xor .u32 (Sh.rot x 17 : Int) (Sh.rot x 19 : Int)) ((x : Int) / 1024) = (Sh.sm1 x : Int) := by
  have h1 := Sh.rot_lt x 17 hx (by decide)
  have h2 := Sh.rot_lt x 19 hx (by decide)
  have e : (x : Int) / 1024 = ((x / 1024 : Nat) : Int) := by simp
  rw [u32_xor_nat _ _ h1 h2, e, u32_xor_nat _ _ (xor_lt h1 h2) (by omega)]
  rfl
theorem next_eq (b : List UInt8) (m x16 x15 x7 x2 : Nat) (h16 : (Sh.ext m (Sh.head b)).getD m 0 = x16) (h15 : (Sh.ext m (Sh.head b)).getD (m + 1) 0 = x15) (h7 : (Sh.ext m (Sh.head b)).getD (m + 9) 0 = x7)
    (h2 : (Sh.ext m (Sh.head b)).getD (m + 14) 0 = x2) (l15 : x15 < 4294967296) (l2 : x2 < 4294967296) :
    ((Sh.next (Sh.ext m (Sh.head b)) : Nat) : Int) = ((x16 : Int) + bits .xor .u32 (bits .xor .u32 (Sh.rot x15 7 : Int) (Sh.rot x15 18 : Int)) ((x15 : Int) / 8) + (x7 : Int) + bits .xor .u32 (bits .xor .u32 (Sh.rot x2 17 : Int) (Sh.rot x2 19 : Int)) ((x2 : Int) / 1024)) % 4294967296 := by
  have hl : (Sh.ext m (Sh.head b)).length = m + 16 := by rw [Sh.ext_len, Sh.head_len]; omega
  rw [sm0_bits _ l15, sm1_bits _ l2, Sh.next, hl, show m + 16 - 16 = m by omega, show m + 16 - 15 = m + 1 by omega, show m + 16 - 7 = m + 9 by omega, show m + 16 - 2 = m + 14 by omega, h16, h15, h7, h2]
  simp only [Sh.add]
  omega

set_option maxHeartbeats 2000000 in
set_option maxRecDepth 100000 in
theorem psched (b : List UInt8) (hb : b.length = 64) (w : World) :
    Calls Tryz.prog 107 #[tx b] w fun e w' => e = .returned (.agg ((Sh.sched b).map uv).toArray) ∧ Below w.heap.size w w' := by
  have hz : ((List.replicate 64 0).map uv).toArray = #[] ++ ((List.replicate 64 0).map uv).toArray := by simp
  clear hz
  go_enter Tryz.func107, Tryz.ntmps107
  go_wp2_with fail
  go_loopw [4, 10] (fun _ i wr => ∃ (k : Nat) (ws : List Nat), i = .int .i64 k ∧ k ≤ 64 ∧ ws = Sh.parts b k ∧ ARow wr (w.heap.size + 1) 129 ws ∧ ARow wr w.heap.size 129 (List.replicate 64 0) ∧ Below w.heap.size w wr) (fun _ i _ => 64 - (intOf i).toNat)
  case atStart =>
    refine ⟨0, _, rfl, by omega, rfl, ?_, ?_, ((Below.refl _ _).alloc (Nat.le_refl _) _).alloc (by simp) _⟩
    · rw [Sh.parts_zero]
      have := ARow.new (w.alloc (.cells ((List.replicate 64 0).map uv).toArray 129)) 129 (List.replicate 64 0)
      simp only [World.size_alloc] at this
      exact this
    · have := (ARow.new w 129 (List.replicate 64 0)).alloc (.cells ((List.replicate 64 0).map uv).toArray 129)
      exact this
  case round =>
    obtain ⟨k, ws, rfl, hk, hws, hrow, hres, hbel⟩ := hrel
    by_cases hlt : k < 64
    · obtain ⟨j, hj⟩ : ∃ j, k / 4 = j := ⟨_, rfl⟩
      have hj1 : (k : Int) / 4 = (j : Int) := by omega
      have hjl : j < ws.length := by rw [hws, Sh.parts_len]; omega
      have hc := hrow.cell j hjl
      have hf := hrow.frozen j
      have hv : ws[j] = Sh.part b k (k / 4) := by simp [hws, Sh.parts, hj]
      have hvl : ws[j] < 16777216 := by rw [hv]; exact Sh.part_small b k
      have HR := Lib.hid hrow
      have HS := Lib.hid hres
      have HB := Lib.hid hbel
      have HW := Lib.hid hws
      have HV := Lib.hid hv
      clear hrow hres hbel hws hv
      obtain ⟨v, hv⟩ : ∃ v, ws[j] = v := ⟨_, rfl⟩
      rw [hv] at hc hvl
      have hvj : (Sh.parts b k).set j (v * 256 + b[k].toNat) = (Sh.parts b k).set (k / 4) (Sh.part b k (k / 4) * 256 + b[k].toNat) := by rw [hj, ← hv, HV.out, hj]
      have HVJ := Lib.hid hvj
      clear hvj hv
      have HQ := Lib.hid (or_word v b[k] hvl)
      have w1 : IntKind.i64.wrap (j : Int) = (j : Int) := IntWalk.i64_in _ ⟨by omega, by omega⟩
      have w2 : (0 : Int) ≤ (j : Int) := by omega
      have w3 : (j : Int) < 64 := by omega
      have w4 : (0 : Int) ≤ (k : Int) := by omega
      have w5 : (k : Int) < 64 := by omega
      go_wp2_with fail
      go_still_tail 13, (by kernel_rfl)
      rw [HQ.out]
      change wpList _ _ _ _ _ wr.drew
      go_wp2
      go_roundw
      case rel =>
        have e1 : uv (v * 256 + b[k].toNat) = Value.int .u32 ((v : Int) * 256 + (b[k].toNat : Int)) := by simp [uv]
        have e2 := HR.out.set j (v * 256 + b[k].toNat)
        rw [e1, HW.out, HVJ.out, Sh.parts_step b k (by omega)] at e2
        exact ⟨k + 1, _, by go_num, by omega, rfl, e2.draw 1, (HS.out.other _ _ _ (by omega)).draw 1, (HB.out.setCell (p := ⟨w.heap.size + 1, j, none⟩) (by simp) _).drew⟩
      case measure => simp [intOf]; omega
    · obtain rfl : k = 64 := by omega
      rw [Sh.parts_done b hb] at hws
      subst hws
      have HR := Lib.hid (show ARow wr (w.heap.size + 1) 129 (Sh.filled b 0) from hrow)
      have HS := Lib.hid hres
      have HB := Lib.hid hbel
      clear hrow hres hbel
      go_wp2_with fail
      simp only [Int.cast_ofNat_Int]
      go_loopw [5, 6, 7, 8, 9, 27] (fun _ _ _ _ _ i wr => ∃ (k m : Nat), i = .int .i64 k ∧ k ≤ 64 ∧ m = k - 16 ∧ ARow wr (w.heap.size + 1) 129 (Sh.filled b m) ∧ ARow wr w.heap.size 129 (List.replicate 64 0) ∧ Below w.heap.size w wr) (fun _ _ _ _ _ i _ => 64 - (intOf i).toNat)
      case atStart => exact ⟨0, 0, rfl, by omega, rfl, HR.out, HS.out, HB.out⟩
      case round =>
        obtain ⟨k, m, rfl, hk, hm, hrow, hres, hbel⟩ := hrel
        by_cases hlt : k < 64
        · by_cases h16 : k < 16
          · obtain rfl : m = 0 := by omega
            go_wp2
            go_roundw
            case rel => exact ⟨k + 1, 0, by go_num, by omega, by omega, hrow, hres, hbel⟩
            case measure => simp [intOf]; omega
          · obtain rfl : k = m + 16 := by omega
            clear hm
            have hml : m < 48 := by omega
            have hE := Sh.getD_lt _ (Sh.ext_lt m _ (Sh.head_lt b))
            have hfl := Sh.filled_len b m (by omega)
            have c15 := hrow.cell (m + 1) (by omega)
            have c2 := hrow.cell (m + 14) (by omega)
            have c16 := hrow.cell m (by omega)
            have c7 := hrow.cell (m + 9) (by omega)
            have cw := hrow.cell (m + 16) (by omega)
            have fw := hrow.frozen (m + 16)
            rw [Sh.filled_at b m _ (by omega) (by omega)] at c15 c2 c16 c7
            obtain ⟨x15, h15⟩ : ∃ x, (Sh.ext m (Sh.head b)).getD (m + 1) 0 = x := ⟨_, rfl⟩
            obtain ⟨x2, h2⟩ : ∃ x, (Sh.ext m (Sh.head b)).getD (m + 14) 0 = x := ⟨_, rfl⟩
            obtain ⟨x16, h16'⟩ : ∃ x, (Sh.ext m (Sh.head b)).getD m 0 = x := ⟨_, rfl⟩
            obtain ⟨x7, h7⟩ : ∃ x, (Sh.ext m (Sh.head b)).getD (m + 9) 0 = x := ⟨_, rfl⟩
            have l15 : x15 < 4294967296 := by rw [← h15]; exact hE _
            have l2 : x2 < 4294967296 := by rw [← h2]; exact hE _
            have l16 : x16 < 4294967296 := by rw [← h16']; exact hE _
            have l7 : x7 < 4294967296 := by rw [← h7]; exact hE _
            rw [h15] at c15
            rw [h2] at c2
            rw [h16'] at c16
            rw [h7] at c7
            obtain ⟨xo, ho⟩ : ∃ x, (Sh.filled b m)[m + 16]'(by omega) = x := ⟨_, rfl⟩
            rw [ho] at cw
            have HR := Lib.hid hrow
            have HS := Lib.hid hres
            have HB := Lib.hid hbel
            have H15 := Lib.hid h15
            have H2 := Lib.hid h2
            have H16 := Lib.hid h16'
            have H7 := Lib.hid h7
            clear hrow hres hbel h15 h2 h16' h7 ho hE
            have w1 : IntKind.i64.wrap ((m : Int) + 16 - 15) = ((m + 1 : Nat) : Int) := by rw [IntWalk.i64_in _ ⟨by omega, by omega⟩]; omega
            have w2 : IntKind.i64.wrap ((m : Int) + 16 - 2) = ((m + 14 : Nat) : Int) := by rw [IntWalk.i64_in _ ⟨by omega, by omega⟩]; omega
            have w3 : IntKind.i64.wrap (m : Int) = (m : Int) := IntWalk.i64_in _ ⟨by omega, by omega⟩
            have w4 : IntKind.i64.wrap ((m : Int) + 16 - 7) = ((m + 9 : Nat) : Int) := by rw [IntWalk.i64_in _ ⟨by omega, by omega⟩]; omega
            have t16 : decide ((m : Int) + 16 < 16) = false := decide_eq_false (by omega)
            have q1 : (0 : Int) ≤ (m : Int) + 1 := by omega
            have q2 : (m : Int) + 1 < 64 := by omega
            have q3 : ((m : Int) + 1).toNat = m + 1 := by omega
            have q4 : (0 : Int) ≤ (m : Int) + 14 := by omega
            have q5 : (m : Int) + 14 < 64 := by omega
            have q6 : ((m : Int) + 14).toNat = m + 14 := by omega
            have q7 : (0 : Int) ≤ (m : Int) := by omega
            have q8 : (m : Int) < 64 := by omega
            have q10 : (0 : Int) ≤ (m : Int) + 9 := by omega
            have q11 : (m : Int) + 9 < 64 := by omega
            have q12 : ((m : Int) + 9).toNat = m + 9 := by omega
            have q13 : (0 : Int) ≤ (m : Int) + 16 := by omega
            have q14 : (m : Int) + 16 < 64 := by omega
            have q15 : ((m : Int) + 16).toNat = m + 16 := by omega
            go_wp2_with fail
            go_quiet (fail)
            go_wp2_with fail
            refine (pright7 x15 l15 _).mono ?_
            rintro e v1 ⟨rfl, rfl⟩
            go_wp2_with fail
            refine (pright18 x15 l15 _).mono ?_
            rintro e v1 ⟨rfl, rfl⟩
            go_wp2_with fail
            refine (pright17 x2 l2 _).mono ?_
            rintro e v1 ⟨rfl, rfl⟩
            go_wp2_with fail
            refine (pright19 x2 l2 _).mono ?_
            rintro e v1 ⟨rfl, rfl⟩
            go_wp2_with fail
            have HR2 := Lib.hid (HR.out.draw nq)
            have HS2 := Lib.hid (HS.out.draw nq)
            have HB2 := Lib.hid (below_drewN HB.out nq)
            clear c15 c2 c16 c7 cw fw w1 w2 q1 q2 q3 q4 q5 q6 HR HS HB
            generalize wr.drewN nq = wq at *
            have c16 := HR2.out.cell m (by omega)
            have c7 := HR2.out.cell (m + 9) (by omega)
            have cw := HR2.out.cell (m + 16) (by omega)
            have fw := HR2.out.frozen (m + 16)
            rw [Sh.filled_at b m _ (by omega) (by omega)] at c16 c7
            rw [H16.out] at c16
            rw [H7.out] at c7
            obtain ⟨xp, hp⟩ : ∃ x, (Sh.filled b m)[m + 16]'(by omega) = x := ⟨_, rfl⟩
            rw [hp] at cw
            clear hp
            go_still_tail 15, (by kernel_rfl)
            change wpList _ _ _ _ _ wq.drew
            go_wp2
            go_roundw
            case rel =>
              have e2 := HR2.out.set (m + 16) (Sh.next (Sh.ext m (Sh.head b)))
              rw [Sh.filled_step b m hml, uv, next_eq b m x16 x15 x7 x2 H16.out H15.out H7.out H2.out l15 l2] at e2
              have eB := (HB2.out.setCell (p := ⟨w.heap.size + 1, m + 16, none⟩) (by simp) (uv (Sh.next (Sh.ext m (Sh.head b))))).drew
              rw [uv, next_eq b m x16 x15 x7 x2 H16.out H15.out H7.out H2.out l15 l2] at eB
              exact ⟨m + 16 + 1, m + 1, by go_num, by omega, by omega, e2.draw 1, (HS2.out.other _ _ _ (by omega)).draw 1, eB⟩
            case measure => simp [intOf]; omega
        · obtain rfl : k = 64 := by omega
          obtain rfl : m = 48 := by omega
          have hsl := Sh.sched_len b
          have HR := Lib.hid (show ARow wr (w.heap.size + 1) 129 (Sh.sched b) by have h := hrow; simpa [Sh.filled, Sh.sched] using h)
          have HS := Lib.hid hres
          have HB := Lib.hid hbel
          clear hrow hres hbel hm
          obtain ⟨ws, hws⟩ : ∃ ws, Sh.sched b = ws := ⟨_, rfl⟩
          rw [hws] at HR hsl
          have HWS := Lib.hid hws
          clear hws
          go_wp2_with (first
            | (refine load_arow rfl 129 _ rfl (w.heap.size + 1) ws rfl HR.out 64 93 Tryz.underlying129 info64 hsl ?_)
            | (refine store_arow rfl 129 _ _ rfl w.heap.size (List.replicate 64 0) ws rfl rfl HS.out 64 info64 (by simp) hsl ?_; intro w' hw1 hw2 hw3))
          refine bodyPost_ret (v := .agg (ws.map uv).toArray) (results_cell_row rfl _ _ w.heap.size 129 _ (0, 0) _ rfl hw1 Tryz.underlying129 rfl (by rw [info64]; simp [hsl])) rfl ⟨by rw [HWS.out], hw2 _ _ (Nat.le_refl _) HB.out⟩
end Go.Proofs.YtflmfbcjmjlkbaaGreatDoor
end
section
/- A state behind a block, as the program makes it. -/
namespace Sh
theorem words_lt : ∀ i, words.getD i 0 < 4294967296 := getD_lt _ (by decide)
theorem words_len : words.length = 64 := by decide
def Ok (s : St) : Prop := s.1 < 4294967296 ∧ s.2.1 < 4294967296 ∧ s.2.2.1 < 4294967296 ∧ s.2.2.2.1 < 4294967296 ∧ s.2.2.2.2.1 < 4294967296 ∧ s.2.2.2.2.2.1 < 4294967296 ∧ s.2.2.2.2.2.2.1 < 4294967296 ∧ s.2.2.2.2.2.2.2 < 4294967296
theorem step_ok (s : St) (x y : Nat) (h : Ok s) : Ok (step s x y) := by
  obtain ⟨a, b, c, d, e, f, g, k⟩ := s
  obtain ⟨h1, h2, h3, h4, h5, h6, h7, h8⟩ := h
  exact ⟨add_lt _ _, h1, h2, h3, add_lt _ _, h5, h6, h7⟩
theorem rounds_ok (s : St) (w : List Nat) (h : Ok s) : ∀ n, Ok (rounds s w n) := by
  intro n
  induction n with
  | zero => exact h
  | succ n ih => exact step_ok _ _ _ ih
end Sh
namespace Go.Proofs.YtflmfbcjmjlkbaaGreatDoor
open Go.RowKit

/-- The constants lie where they lie. -/
def GW (W : World) : Prop := ∀ i, i < 64 → W.cell? ⟨0, i, none⟩ = some (uv (Sh.words.getD i 0))
theorem GW.below {w w' : World} (h : GW w) (hb : Below w.heap.size w w') : GW w' := fun i hi => below_cell hb (h i hi)

theorem and_lt {a b : Nat} (ha : a < 4294967296) : a &&& b < 4294967296 := Nat.lt_of_le_of_lt Nat.and_le_left ha
theorem big1_bits (e : Nat) (h : e < 4294967296) : bits .xor .u32 (bits .xor .u32 (Sh.rot e 6 : Int) (Sh.rot e 11 : Int)) (Sh.rot e 25 : Int) = (Sh.big1 e : Int) := by
  have h1 := Sh.rot_lt e 6 h (by decide)
  have h2 := Sh.rot_lt e 11 h (by decide)
  have h3 := Sh.rot_lt e 25 h (by decide)
  rw [u32_xor_nat _ _ h1 h2, u32_xor_nat _ _ (xor_lt h1 h2) h3]
  rfl
theorem big0_bits (a : Nat) (h : a < 4294967296) : bits .xor .u32 (bits .xor .u32 (Sh.rot a 2 : Int) (Sh.rot a 13 : Int)) (Sh.rot a 22 : Int) = (Sh.big0 a : Int) := by
  have h1 := Sh.rot_lt a 2 h (by decide)
  have h2 := Sh.rot_lt a 13 h (by decide)
  have h3 := Sh.rot_lt a 22 h (by decide)
  rw [u32_xor_nat _ _ h1 h2, u32_xor_nat _ _ (xor_lt h1 h2) h3]
  rfl
theorem maj_bits (a b c : Nat) (ha : a < 4294967296) (hb : b < 4294967296) (hc : c < 4294967296) :
    bits .xor .u32 (bits .xor .u32 (bits .and .u32 (a : Int) (b : Int)) (bits .and .u32 (a : Int) (c : Int))) (bits .and .u32 (b : Int) (c : Int)) = (Sh.maj a b c : Int) := by
  rw [u32_and_nat _ _ ha hb, u32_and_nat _ _ ha hc, u32_and_nat _ _ hb hc, u32_xor_nat _ _ (and_lt ha) (and_lt ha), u32_xor_nat _ _ (xor_lt (and_lt ha) (and_lt ha)) (and_lt hb)]
  rfl

theorem not_bits (e : Nat) (h : e < 4294967296) : bits .xor .u32 4294967295 (e : Int) = ((4294967295 - e : Nat) : Int) := by
  have e1 : (4294967295 : Int) = ((4294967295 : Nat) : Int) := rfl
  rw [e1, u32_xor_nat _ _ (by decide) h]
  have h2 : (BitVec.allOnes 32 ^^^ BitVec.ofNat 32 e).toNat = (~~~ BitVec.ofNat 32 e).toNat := by rw [BitVec.allOnes_xor]
  rw [BitVec.toNat_xor, BitVec.toNat_not, BitVec.toNat_ofNat, Nat.mod_eq_of_lt (show e < 2 ^ 32 from h)] at h2
  have h3 : (BitVec.allOnes 32).toNat = 4294967295 := by decide
  rw [h3] at h2
  rw [h2]
theorem tt_bits (se sf sg sk kv wv : Nat) (le : se < 4294967296) (lf : sf < 4294967296) (lg : sg < 4294967296) :
    (((sk : Int) + bits .xor .u32 (bits .xor .u32 (Sh.rot se 6 : Int) (Sh.rot se 11 : Int)) (Sh.rot se 25 : Int) +
      bits .xor .u32 (bits .and .u32 (se : Int) (sf : Int)) (bits .and .u32 (bits .xor .u32 4294967295 (se : Int)) (sg : Int)) + (kv : Int)) % 4294967296 + (wv : Int)) % 4294967296 = ((Sh.tt se sf sg sk kv wv : Nat) : Int) := by
  rw [big1_bits se le, not_bits se le, u32_and_nat _ _ le lf, u32_and_nat _ _ (by omega) lg, u32_xor_nat _ _ (and_lt le) (and_lt (by omega))]
  have : (se &&& sf) ^^^ ((4294967295 - se) &&& sg) = Sh.ch se sf sg := rfl
  rw [this]
  simp only [Sh.tt, Sh.add]
  omega
theorem uu_bits (sa sb sc : Nat) (la : sa < 4294967296) (lb : sb < 4294967296) (lc : sc < 4294967296) :
    (bits .xor .u32 (bits .xor .u32 (Sh.rot sa 2 : Int) (Sh.rot sa 13 : Int)) (Sh.rot sa 22 : Int) + bits .xor .u32 (bits .xor .u32 (bits .and .u32 (sa : Int) (sb : Int)) (bits .and .u32 (sa : Int) (sc : Int))) (bits .and .u32 (sb : Int) (sc : Int))) % 4294967296 = ((Sh.uu sa sb sc : Nat) : Int) := by
  rw [big0_bits sa la, maj_bits sa sb sc la lb lc]
  simp only [Sh.uu, Sh.add]
  omega
theorem pright_three (x : Nat) (n : Int) (hx : x < 4294967296) (h : n = 6 ∨ n = 11 ∨ n = 25) (w : World) :
    Calls Tryz.prog 108 #[uv x, .int .i64 n] w fun e w' => e = .returned (uv (Sh.rot x n.toNat)) ∧ w' = w := by
  rcases h with rfl | rfl | rfl
  · exact pright6 x hx w
  · exact pright11 x hx w
  · exact pright25 x hx w

theorem idx8_0 (sa sb sc sd se sf sg sk : Nat) (W : World) : (Instr.index 94 (.agg #[uv sa, uv sb, uv sc, uv sd, uv se, uv sf, uv sg, uv sk]) (.int .i64 0)).run Tryz.prog W = .ok (uv sa) W := by kernel_rfl
theorem idx8_1 (sa sb sc sd se sf sg sk : Nat) (W : World) : (Instr.index 94 (.agg #[uv sa, uv sb, uv sc, uv sd, uv se, uv sf, uv sg, uv sk]) (.int .i64 1)).run Tryz.prog W = .ok (uv sb) W := by kernel_rfl
theorem idx8_2 (sa sb sc sd se sf sg sk : Nat) (W : World) : (Instr.index 94 (.agg #[uv sa, uv sb, uv sc, uv sd, uv se, uv sf, uv sg, uv sk]) (.int .i64 2)).run Tryz.prog W = .ok (uv sc) W := by kernel_rfl
theorem idx8_3 (sa sb sc sd se sf sg sk : Nat) (W : World) : (Instr.index 94 (.agg #[uv sa, uv sb, uv sc, uv sd, uv se, uv sf, uv sg, uv sk]) (.int .i64 3)).run Tryz.prog W = .ok (uv sd) W := by kernel_rfl
theorem idx8_4 (sa sb sc sd se sf sg sk : Nat) (W : World) : (Instr.index 94 (.agg #[uv sa, uv sb, uv sc, uv sd, uv se, uv sf, uv sg, uv sk]) (.int .i64 4)).run Tryz.prog W = .ok (uv se) W := by kernel_rfl
theorem idx8_5 (sa sb sc sd se sf sg sk : Nat) (W : World) : (Instr.index 94 (.agg #[uv sa, uv sb, uv sc, uv sd, uv se, uv sf, uv sg, uv sk]) (.int .i64 5)).run Tryz.prog W = .ok (uv sf) W := by kernel_rfl
theorem idx8_6 (sa sb sc sd se sf sg sk : Nat) (W : World) : (Instr.index 94 (.agg #[uv sa, uv sb, uv sc, uv sd, uv se, uv sf, uv sg, uv sk]) (.int .i64 6)).run Tryz.prog W = .ok (uv sg) W := by kernel_rfl
theorem idx8_7 (sa sb sc sd se sf sg sk : Nat) (W : World) : (Instr.index 94 (.agg #[uv sa, uv sb, uv sc, uv sd, uv se, uv sf, uv sg, uv sk]) (.int .i64 7)).run Tryz.prog W = .ok (uv sk) W := by kernel_rfl

set_option maxHeartbeats 1000000 in
set_option maxRecDepth 100000 in
theorem pblock8 (a b c d e f g k : Nat) (hok : Sh.Ok (a, b, c, d, e, f, g, k)) (bl : List UInt8) (hb : bl.length = 64) (w : World) (hw : GW w) :
    Calls Tryz.prog 90 #[.agg #[uv a, uv b, uv c, uv d, uv e, uv f, uv g, uv k], tx bl] w fun ee w' => ee = .returned (.tuple #[.agg ((Sh.block [a, b, c, d, e, f, g, k] bl).map uv).toArray, .int .i64 0]) ∧ Below w.heap.size w w' := by
  have t1 : ((bl.length : Int) != 64) = false := by rw [hb]; decide
  have HSL := Lib.hid (Sh.sched_len bl)
  have HLT := Lib.hid (Sh.sched_lt bl)
  have hcall := Lib.hid (fun W => psched bl hb W)
  have GWH := Lib.hid hw
  clear hw hb
  have hbox : ARow (w.alloc (.cells #[uv a, uv b, uv c, uv d, uv e, uv f, uv g, uv k] 94)) w.heap.size 94 [a, b, c, d, e, f, g, k] := ARow.new w 94 [a, b, c, d, e, f, g, k]
  have hbox2 := hbox.alloc (.cells #[.int .u32 0, .int .u32 0, .int .u32 0, .int .u32 0, .int .u32 0, .int .u32 0, .int .u32 0, .int .u32 0] 94)
  have hres : ARow ((w.alloc (.cells #[uv a, uv b, uv c, uv d, uv e, uv f, uv g, uv k] 94)).alloc (.cells #[.int .u32 0, .int .u32 0, .int .u32 0, .int .u32 0, .int .u32 0, .int .u32 0, .int .u32 0, .int .u32 0] 94)) (w.heap.size + 1) 94 (List.replicate 8 0) := by
    have := ARow.new (w.alloc (.cells #[uv a, uv b, uv c, uv d, uv e, uv f, uv g, uv k] 94)) 94 (List.replicate 8 0)
    simp only [World.size_alloc] at this
    exact this
  have hg0 : Below w.heap.size w ((w.alloc (.cells #[uv a, uv b, uv c, uv d, uv e, uv f, uv g, uv k] 94)).alloc (.cells #[.int .u32 0, .int .u32 0, .int .u32 0, .int .u32 0, .int .u32 0, .int .u32 0, .int .u32 0, .int .u32 0] 94)) := ((Below.refl _ _).alloc (Nat.le_refl _) _).alloc (by simp) _
  have HX := Lib.hid hbox2
  have HS := Lib.hid hres
  have HG := Lib.hid hg0
  clear hbox hbox2 hres hg0
  go_enter Tryz.func90, Tryz.ntmps90
  go_wp2_with fail
  refine (hcall.out _).mono ?_
  rintro ee w1 ⟨rfl, hb1⟩
  obtain ⟨ws, hws⟩ : ∃ ws, Sh.sched bl = ws := ⟨_, rfl⟩
  rw [hws] at HSL HLT ⊢
  have hx1 := HX.out.kept hb1
  have hs1 := HS.out.kept hb1
  have hz := ARow.new w1 129 (List.replicate 64 0)
  have hx2 := hx1.alloc (.cells ((List.replicate 64 0).map uv).toArray 129)
  have hs2 := hs1.alloc (.cells ((List.replicate 64 0).map uv).toArray 129)
  have hB1 : Below w.heap.size w w1 := HG.out.trans (hb1.mono (by simp; omega))
  have hB2 := hB1.alloc hB1.size (.cells ((List.replicate 64 0).map uv).toArray 129)
  have hsz : w.heap.size + 1 < w1.heap.size := hs1.lt
  have HX2 := Lib.hid hx2
  have HS2 := Lib.hid hs2
  have HB2 := Lib.hid hB2
  have HZ := Lib.hid hz
  have HWS := Lib.hid hws
  clear hx1 hs1 hz hx2 hs2 hB1 hB2 hws hb1 HX HS HG
  go_wp2_with (refine store_arow rfl 129 _ _ rfl w1.heap.size (List.replicate 64 0) ws rfl rfl HZ.out 64 info64 (by simp) HSL.out ?_; intro w2 hw1 hw2 hw3)
  dsimp only [Act.put]
  have HX3 := Lib.hid (hw3 w.heap.size _ _ (by omega) HX2.out)
  have HS3 := Lib.hid (hw3 (w.heap.size + 1) _ _ (by omega) HS2.out)
  have HB3 := Lib.hid (hw2 w.heap.size w (by omega) HB2.out)
  have HW3 := Lib.hid hw1
  have GW3 := Lib.hid (GWH.out.below HB3.out)
  clear hw1 hw2 hw3 HX2 HS2 HB2 HZ
  have c0 : w2.cell? ⟨w.heap.size, 0, none⟩ = some (uv a) := HX3.out.cell 0 (by simp)
  have c1 : w2.cell? ⟨w.heap.size, 1, none⟩ = some (uv b) := HX3.out.cell 1 (by simp)
  have c2 : w2.cell? ⟨w.heap.size, 2, none⟩ = some (uv c) := HX3.out.cell 2 (by simp)
  have c3 : w2.cell? ⟨w.heap.size, 3, none⟩ = some (uv d) := HX3.out.cell 3 (by simp)
  have c4 : w2.cell? ⟨w.heap.size, 4, none⟩ = some (uv e) := HX3.out.cell 4 (by simp)
  have c5 : w2.cell? ⟨w.heap.size, 5, none⟩ = some (uv f) := HX3.out.cell 5 (by simp)
  have c6 : w2.cell? ⟨w.heap.size, 6, none⟩ = some (uv g) := HX3.out.cell 6 (by simp)
  have c7 : w2.cell? ⟨w.heap.size, 7, none⟩ = some (uv k) := HX3.out.cell 7 (by simp)
  go_quiet (fail)
  go_wp2_with fail
  clear c0 c1 c2 c3 c4 c5 c6 c7
  have HX4 := Lib.hid (HX3.out.draw nq)
  have HS4 := Lib.hid (HS3.out.draw nq)
  have HB4 := Lib.hid (below_drewN HB3.out nq)
  have HW4 := Lib.hid (HW3.out.draw nq)
  have GW4 := Lib.hid (show GW (w2.drewN nq) from GW3.out)
  clear HX3 HS3 HB3 HW3 GW3
  generalize w2.drewN nq = w3 at *
  go_loopw [7, 8, 9, 10, 11, 12, 13, 14, 15, 16, 17, 42] (fun ta tb tc td te tf tg tk _ _ _ i wr => ∃ (n : Nat) (s : Sh.St), i = .int .i64 n ∧ n ≤ 64 ∧ s = Sh.rounds (a, b, c, d, e, f, g, k) ws n ∧ ta = uv s.1 ∧ tb = uv s.2.1 ∧ tc = uv s.2.2.1 ∧ td = uv s.2.2.2.1 ∧ te = uv s.2.2.2.2.1 ∧ tf = uv s.2.2.2.2.2.1 ∧ tg = uv s.2.2.2.2.2.2.1 ∧ tk = uv s.2.2.2.2.2.2.2 ∧ ∃ q, wr = w3.drewN q) (fun _ _ _ _ _ _ _ _ _ _ _ i _ => 64 - (intOf i).toNat)
  case atStart => exact ⟨0, _, rfl, by omega, rfl, rfl, rfl, rfl, rfl, rfl, rfl, rfl, rfl, 0, rfl⟩
  case round =>
    obtain ⟨n, s, rfl, hn, hs, rfl, rfl, rfl, rfl, rfl, rfl, rfl, rfl, q, rfl⟩ := hrel
    by_cases hlt : n < 64
    · have hok2 := Sh.rounds_ok (a, b, c, d, e, f, g, k) ws hok n
      rw [← hs] at hok2
      obtain ⟨sa, sb, sc, sd, se, sf, sg, sk⟩ := s
      obtain ⟨la, lb, lc, ld, le, lf, lg, lk⟩ := hok2
      simp only [] at la lb lc ld le lf lg lk
      have hwn := (HW4.out.draw q).cell n (by rw [HSL.out]; exact hlt)
      have hwl : ws[n]'(by rw [HSL.out]; exact hlt) < 4294967296 := HLT.out _ (List.getElem_mem _)
      have hgn : (w3.drewN q).cell? ⟨0, n, none⟩ = some (uv (Sh.words.getD n 0)) := GW4.out n hlt
      have hkl := Sh.words_lt n
      obtain ⟨wv, hwv⟩ : ∃ x, ws[n]'(by rw [HSL.out]; exact hlt) = x := ⟨_, rfl⟩
      obtain ⟨kv, hkv⟩ : ∃ x, Sh.words.getD n 0 = x := ⟨_, rfl⟩
      rw [hwv] at hwn hwl
      rw [hkv] at hgn hkl
      have HS1 := Lib.hid hs
      have HWV := Lib.hid hwv
      have HKV := Lib.hid hkv
      clear hs hwv hkv
      obtain ⟨wq, hq⟩ : ∃ x, w3.drewN q = x := ⟨_, rfl⟩
      rw [hq] at hwn hgn ⊢
      have HQ := Lib.hid hq
      clear hq
      have HTT := Lib.hid (tt_bits se sf sg sk kv wv le lf lg)
      obtain ⟨T, hT⟩ : ∃ T, Sh.tt se sf sg sk kv wv = T := ⟨_, rfl⟩
      rw [hT] at HTT
      have HT := Lib.hid hT
      clear hT
      have hif : (if IntKind.u32.signed = true then (-1 : Int) else IntKind.u32.max) = 4294967295 := by decide
      have w1' : (0 : Int) ≤ (n : Int) := by omega
      have w2' : (n : Int) < 64 := by omega
      go_wp2_with fail
      go_quiet ((go_at_call 108; exact Calls.quiet_of_same (pright_three se _ le (by simp) _)))
      rw [HTT.out]
      go_wp2_with fail
      refine (pright2 sa la _).mono ?_
      rintro ee v1 ⟨rfl, rfl⟩
      go_wp2_with fail
      refine (pright13 sa la _).mono ?_
      rintro ee v1 ⟨rfl, rfl⟩
      go_wp2_with fail
      refine (pright22 sa la _).mono ?_
      rintro ee v1 ⟨rfl, rfl⟩
      go_wp2
      go_roundw
      case rel =>
        have e1 : ws.getD n 0 = wv := by rw [List.getD, List.getElem?_eq_getElem (by rw [HSL.out]; exact hlt)]; exact HWV.out
        refine ⟨n + 1, (Sh.add T (Sh.uu sa sb sc), sa, sb, sc, Sh.add sd T, se, sf, sg), by go_num, by omega, ?_, ?_, rfl, rfl, rfl, ?_, rfl, rfl, rfl, q + nq, ?_⟩
        · rw [Sh.rounds, ← HS1.out, HKV.out, e1, ← HT.out]; rfl
        · rw [uu_bits sa sb sc la lb lc]; simp [uv, Sh.add]
        · simp [uv, Sh.add]
        · rw [← HQ.out, World.drewN_drewN]
      case measure => simp [intOf]; omega
    · obtain rfl : n = 64 := by omega
      have hok2 := Sh.rounds_ok (a, b, c, d, e, f, g, k) ws hok 64
      rw [← hs] at hok2
      obtain ⟨sa, sb, sc, sd, se, sf, sg, sk⟩ := s
      have HSB := Lib.hid (show Sh.block [a, b, c, d, e, f, g, k] bl = [Sh.add a sa, Sh.add b sb, Sh.add c sc, Sh.add d sd, Sh.add e se, Sh.add f sf, Sh.add g sg, Sh.add k sk] by
        rw [Sh.block, HWS.out, show Sh.ofL [a, b, c, d, e, f, g, k] = (a, b, c, d, e, f, g, k) from rfl, ← hs]; rfl)
      have HX5 := Lib.hid (HX4.out.draw q)
      have HS5 := Lib.hid (HS4.out.draw q)
      have HB5 := Lib.hid (below_drewN HB4.out q)
      clear hs hok2 HX4 HS4 HB4 HW4 GW4
      generalize w3.drewN q = w5 at *
      have c0 : w5.cell? ⟨w.heap.size, 0, none⟩ = some (uv a) := HX5.out.cell 0 (by simp)
      have c1 : w5.cell? ⟨w.heap.size, 1, none⟩ = some (uv b) := HX5.out.cell 1 (by simp)
      have c2 : w5.cell? ⟨w.heap.size, 2, none⟩ = some (uv c) := HX5.out.cell 2 (by simp)
      have c3 : w5.cell? ⟨w.heap.size, 3, none⟩ = some (uv d) := HX5.out.cell 3 (by simp)
      have c4 : w5.cell? ⟨w.heap.size, 4, none⟩ = some (uv e) := HX5.out.cell 4 (by simp)
      have c5 : w5.cell? ⟨w.heap.size, 5, none⟩ = some (uv f) := HX5.out.cell 5 (by simp)
      have c6 : w5.cell? ⟨w.heap.size, 6, none⟩ = some (uv g) := HX5.out.cell 6 (by simp)
      have c7 : w5.cell? ⟨w.heap.size, 7, none⟩ = some (uv k) := HX5.out.cell 7 (by simp)
      have f0 := HX5.out.frozen 0
      have f1 := HX5.out.frozen 1
      have f2 := HX5.out.frozen 2
      have f3 := HX5.out.frozen 3
      have f4 := HX5.out.frozen 4
      have f5 := HX5.out.frozen 5
      have f6 := HX5.out.frozen 6
      have f7 := HX5.out.frozen 7
      have i0 := fun W => idx8_0 sa sb sc sd se sf sg sk W
      have i1 := fun W => idx8_1 sa sb sc sd se sf sg sk W
      have i2 := fun W => idx8_2 sa sb sc sd se sf sg sk W
      have i3 := fun W => idx8_3 sa sb sc sd se sf sg sk W
      have i4 := fun W => idx8_4 sa sb sc sd se sf sg sk W
      have i5 := fun W => idx8_5 sa sb sc sd se sf sg sk W
      have i6 := fun W => idx8_6 sa sb sc sd se sf sg sk W
      have i7 := fun W => idx8_7 sa sb sc sd se sf sg sk W
      go_wp2_with fail
      refine wp_loop_rounds 9 ?_
      rw [rounds_succ]
      go_wp2
      rw [rounds_succ]
      go_wp2
      rw [rounds_succ]
      go_wp2
      rw [rounds_succ]
      go_wp2
      rw [rounds_succ]
      go_wp2
      rw [rounds_succ]
      go_wp2
      rw [rounds_succ]
      go_wp2
      rw [rounds_succ]
      go_wp2
      have ea : uv (Sh.add a sa) = Value.int .u32 ((((a : Nat) : Int) + ((sa : Nat) : Int)) % 4294967296) := by simp [uv, Sh.add]
      have eb : uv (Sh.add b sb) = Value.int .u32 ((((b : Nat) : Int) + ((sb : Nat) : Int)) % 4294967296) := by simp [uv, Sh.add]
      have ec : uv (Sh.add c sc) = Value.int .u32 ((((c : Nat) : Int) + ((sc : Nat) : Int)) % 4294967296) := by simp [uv, Sh.add]
      have ed : uv (Sh.add d sd) = Value.int .u32 ((((d : Nat) : Int) + ((sd : Nat) : Int)) % 4294967296) := by simp [uv, Sh.add]
      have ee : uv (Sh.add e se) = Value.int .u32 ((((e : Nat) : Int) + ((se : Nat) : Int)) % 4294967296) := by simp [uv, Sh.add]
      have ef : uv (Sh.add f sf) = Value.int .u32 ((((f : Nat) : Int) + ((sf : Nat) : Int)) % 4294967296) := by simp [uv, Sh.add]
      have eg : uv (Sh.add g sg) = Value.int .u32 ((((g : Nat) : Int) + ((sg : Nat) : Int)) % 4294967296) := by simp [uv, Sh.add]
      have ek : uv (Sh.add k sk) = Value.int .u32 ((((k : Nat) : Int) + ((sk : Nat) : Int)) % 4294967296) := by simp [uv, Sh.add]
      have x8 := ((((((((HX5.out.set 0 (Sh.add a sa)).set 1 (Sh.add b sb)).set 2 (Sh.add c sc)).set 3 (Sh.add d sd)).set 4 (Sh.add e se)).set 5 (Sh.add f sf)).set 6 (Sh.add g sg)).set 7 (Sh.add k sk))
      have s8 := ((((((((HS5.out.other w.heap.size 0 (uv (Sh.add a sa)) (by omega)).other w.heap.size 1 (uv (Sh.add b sb)) (by omega)).other w.heap.size 2 (uv (Sh.add c sc)) (by omega)).other w.heap.size 3 (uv (Sh.add d sd)) (by omega)).other w.heap.size 4 (uv (Sh.add e se)) (by omega)).other w.heap.size 5 (uv (Sh.add f sf)) (by omega)).other w.heap.size 6 (uv (Sh.add g sg)) (by omega)).other w.heap.size 7 (uv (Sh.add k sk)) (by omega))
      have b8 := ((((((((HB5.out.setCell (p := ⟨w.heap.size, 0, none⟩) (Nat.le_refl _) (uv (Sh.add a sa))).setCell (p := ⟨w.heap.size, 1, none⟩) (Nat.le_refl _) (uv (Sh.add b sb))).setCell (p := ⟨w.heap.size, 2, none⟩) (Nat.le_refl _) (uv (Sh.add c sc))).setCell (p := ⟨w.heap.size, 3, none⟩) (Nat.le_refl _) (uv (Sh.add d sd))).setCell (p := ⟨w.heap.size, 4, none⟩) (Nat.le_refl _) (uv (Sh.add e se))).setCell (p := ⟨w.heap.size, 5, none⟩) (Nat.le_refl _) (uv (Sh.add f sf))).setCell (p := ⟨w.heap.size, 6, none⟩) (Nat.le_refl _) (uv (Sh.add g sg))).setCell (p := ⟨w.heap.size, 7, none⟩) (Nat.le_refl _) (uv (Sh.add k sk)))
      simp only [ea, eb, ec, ed, ee, ef, eg, ek] at x8 s8 b8
      have x9 : ARow _ w.heap.size 94 [Sh.add a sa, Sh.add b sb, Sh.add c sc, Sh.add d sd, Sh.add e se, Sh.add f sf, Sh.add g sg, Sh.add k sk] := x8
      have HX9 := Lib.hid x9
      have HS9 := Lib.hid s8
      have HB9 := Lib.hid b8
      clear x8 x9 s8 b8 c0 c1 c2 c3 c4 c5 c6 c7 f0 f1 f2 f3 f4 f5 f6 f7
      rw [rounds_succ]
      go_wp2_with (first
        | (refine load_arow rfl 94 _ rfl w.heap.size _ rfl HX9.out 8 93 Tryz.underlying94 info8 rfl ?_)
        | (refine store_arow rfl 94 _ _ rfl (w.heap.size + 1) (List.replicate 8 0) _ rfl rfl HS9.out 8 info8 (by simp) rfl ?_; intro w9 k1 k2 k3))
      have d0 : w9.cell? ⟨w.heap.size + 1, 0, none⟩ = some (uv (Sh.add a sa)) := k1.cell 0 (by simp)
      have d1 : w9.cell? ⟨w.heap.size + 1, 1, none⟩ = some (uv (Sh.add b sb)) := k1.cell 1 (by simp)
      have d2 : w9.cell? ⟨w.heap.size + 1, 2, none⟩ = some (uv (Sh.add c sc)) := k1.cell 2 (by simp)
      have d3 : w9.cell? ⟨w.heap.size + 1, 3, none⟩ = some (uv (Sh.add d sd)) := k1.cell 3 (by simp)
      have d4 : w9.cell? ⟨w.heap.size + 1, 4, none⟩ = some (uv (Sh.add e se)) := k1.cell 4 (by simp)
      have d5 : w9.cell? ⟨w.heap.size + 1, 5, none⟩ = some (uv (Sh.add f sf)) := k1.cell 5 (by simp)
      have d6 : w9.cell? ⟨w.heap.size + 1, 6, none⟩ = some (uv (Sh.add g sg)) := k1.cell 6 (by simp)
      have d7 : w9.cell? ⟨w.heap.size + 1, 7, none⟩ = some (uv (Sh.add k sk)) := k1.cell 7 (by simp)
      refine bodyPost_ret (v := .tuple #[.agg #[uv (Sh.add a sa), uv (Sh.add b sb), uv (Sh.add c sc), uv (Sh.add d sd), uv (Sh.add e se), uv (Sh.add f sf), uv (Sh.add g sg), uv (Sh.add k sk)], .int .i64 0]) (by simp [results, Tryz.results90, go_sem, d0, d1, d2, d3, d4, d5, d6, d7]) rfl ⟨by rw [HSB.out]; rfl, k2 _ _ (by omega) HB9.out⟩
end Go.Proofs.YtflmfbcjmjlkbaaGreatDoor
end
section
/- The contracts of the strings.Builder: Grow (ahead of all writing), WriteByte. -/
namespace Go.Proofs.YtflmfbcjmjlkbaaGreatDoor
open Go.RowKit Go.Shelf

def gr_ren : Go.Shelf.Ren := ⟨fun | 241 => 113 | 277 => 115 | n => n, fun | 70 => 108 | 9 => 9 | 0 => 0 | 72 => 110 | 37 => 83 | 127 => 139 | 3 => 3 | 5 => 5 | n => n, fun | n => n⟩
theorem gr_lays : Go.Proofs.Lays.n241 Tryz.prog gr_ren := {
  mixed := by kernel_rfl
  f241 := Tryz.func113.trans (congrArg some (by kernel_rfl))
  f277 := Tryz.func115.trans (congrArg some (by kernel_rfl))
  t0 := Tryz.underlying0, a0 := Tryz.isAgg0, z0 := Tryz.sizeOf0, v0 := Tryz.zeroValue0
  t3 := Tryz.underlying3, a3 := Tryz.isAgg3, z3 := Tryz.sizeOf3, v3 := Tryz.zeroValue3
  t37 := Tryz.underlying83, a37 := Tryz.isAgg83, z37 := Tryz.sizeOf83, v37 := Tryz.zeroValue83
  t70 := Tryz.underlying108, a70 := Tryz.isAgg108, z70 := Tryz.sizeOf108, v70 := Tryz.zeroValue108
  t72 := Tryz.underlying110, a72 := Tryz.isAgg110, z72 := Tryz.sizeOf110, v72 := Tryz.zeroValue110 }
theorem gr_extra : Builder.Extra Tryz.prog gr_ren := {
  sizeBuilder := by kernel_rfl
  liesBuilder := by kernel_rfl
  t5 := Tryz.underlying5, a5 := Tryz.isAgg5, z5 := Tryz.sizeOf5, v5 := Tryz.zeroValue5
  infoByte := by kernel_rfl
  cellsByte := by kernel_rfl
  sizeByte := by kernel_rfl
  neB5 := by decide }
theorem grow_any (B b n : Nat) (w : World) (hB : B ≤ b) (hbk : w.heap[b]? = some (.cells #[.pointer (some ⟨b, 0, none⟩), .slice none 0 0] 110 (0, 0))) (hBw : B ≤ w.heap.size) (hn : n ≤ 281474976710656) :
    Calls Tryz.prog 113 #[.pointer (some ⟨b, 0, none⟩), .int .i64 n] w fun e w' => e = .returned (.tuple #[]) ∧ Lib.BuilderAt 110 5 B b (.pointer (some ⟨b, 0, none⟩)) [] w' ∧ Below B w w' :=
  Any.Builder_grow_fresh gr_lays gr_extra B b n w hB hbk hBw hn

set_option maxHeartbeats 1000000 in
set_option maxRecDepth 100000 in
theorem builderGrow_any (B b n : Nat) (w : World) (hB : B ≤ b) (hbk : w.heap[b]? = some (.cells #[.pointer none, .slice none 0 0] 110 (0, 0))) (hBw : B ≤ w.heap.size) (hn : n ≤ 281474976710656) :
    Calls Tryz.prog 105 #[.pointer (some ⟨b, 0, none⟩), .int .i64 n] w fun e w' => e = .returned (.tuple #[]) ∧ Lib.IsBuilder 110 5 B b [] w' ∧ Below B w w' := by
  have hat : Lib.BuilderAt 110 5 B b (.pointer none) [] w := ⟨hB, .slice none 0 0, hbk, World.ownsRow_nil _ _ _ _, by simp [Value.ownBlock]⟩
  have hlt : b < w.heap.size := (Array.getElem?_eq_some_iff.1 hbk).1
  have hbk1 : (w.setCell ⟨b, 0, none⟩ (.pointer (some ⟨b, 0, none⟩))).heap[b]? = some (.cells #[.pointer (some ⟨b, 0, none⟩), .slice none 0 0] 110 (0, 0)) := by
    simp [World.setCell, Array.getElem?_modify, hbk]
  have hu : Lib.IsBuilder 110 5 B b [] (w.setCell ⟨b, 0, none⟩ (.pointer (some ⟨b, 0, none⟩))) := .inr (hat.used _)
  have hcc := copyCheck_fresh b w hat.cell0 hat.shape hat.frozen0
  have hbl : Below B w (w.setCell ⟨b, 0, none⟩ (.pointer (some ⟨b, 0, none⟩))) := (Below.refl _ _).setCell (p := ⟨b, 0, none⟩) hB _
  obtain ⟨w1, hw1⟩ : ∃ x, w.setCell ⟨b, 0, none⟩ (.pointer (some ⟨b, 0, none⟩)) = x := ⟨_, rfl⟩
  rw [hw1] at hbk1 hu hcc hbl
  have c1 : w1.cell? ⟨b, 1, none⟩ = some (.slice none 0 0) := by rw [Lib.cell_of_heap hbk1]; rfl
  have HC := Lib.hid hcc
  have HU := Lib.hid hu
  have HK := Lib.hid hbk1
  have HB := Lib.hid hbl
  clear hat hbk hcc hu hbk1 hbl hw1
  have t1 : decide ((n : Int) < 0) = false := decide_eq_false (by omega)
  have hw0 : IntKind.i64.wrap 0 = 0 := by decide
  by_cases h0 : 0 < n
  · have t2 : decide ((0 : Int) < (n : Int)) = true := decide_eq_true (by omega)
    go_enter Tryz.func105, Tryz.ntmps105
    go_wp2_with fail
    refine HC.out.mono ?_
    rintro e w2 ⟨rfl, rfl⟩
    go_wp2_with fail
    go_quiet (fail)
    go_wp2_with fail
    refine (grow_any B b n _ hB (show (w1.drewN nq).heap[b]? = _ from HK.out) (Nat.le_trans hBw HB.out.size) hn).mono ?_
    rintro e w3 ⟨rfl, h3, b3⟩
    go_wp2
    go_end0
    exact ⟨rfl, .inr h3, (below_drewN HB.out nq).trans b3⟩
  · obtain rfl : n = 0 := by omega
    go_enter Tryz.func105, Tryz.ntmps105
    go_wp2_with fail
    refine HC.out.mono ?_
    rintro e w2 ⟨rfl, rfl⟩
    go_wp2_with fail
    go_quiet (fail)
    go_wp2
    go_end0
    exact ⟨rfl, HU.out, below_drewN HB.out _⟩

set_option maxHeartbeats 2000000 in
set_option maxRecDepth 100000 in
theorem writeByte_any (B b : Nat) (bs : List Value) (y : UInt8) (w : World) (h : Lib.IsBuilder 110 5 B b bs w) (hl : bs.length + 1 ≤ 140737488355328) (hB : B ≤ w.heap.size) :
    Calls Tryz.prog 106 #[.pointer (some ⟨b, 0, none⟩), bv y] w fun e w' => e = .returned .nilIface ∧ Lib.IsBuilder 110 5 B b (bs ++ [bv y]) w' ∧ Below B w w' := by
  obtain ⟨i0, hi, hz0, hz1, hz2⟩ := info_parts builder_byte
  unfold bv
  go_enter Tryz.func106, Tryz.ntmps106
  go_wp2_with fail
  refine (copyCheck_any B b bs w h).mono ?_
  rintro e w1 ⟨rfl, ⟨hb, v, hbk, hown, hne⟩, hbel⟩
  have hs1 := hbel.size
  have hlt : b < w1.heap.size := (Array.getElem?_eq_some_iff.1 hbk).1
  have c0 : w1.cell? ⟨b, 0, none⟩ = some (.pointer (some ⟨b, 0, none⟩)) := by rw [Lib.cell_of_heap hbk]; rfl
  have c1 : w1.cell? ⟨b, 1, none⟩ = some v := by rw [Lib.cell_of_heap hbk]; rfl
  have HO := Lib.hid hown
  have HK := Lib.hid hbk
  have HN := Lib.hid hne
  clear hown hbk hne
  go_wp2_with (at_builtin; refine wpList_append_own _ rfl _ _ 83 rfl B 5 i0 (.int .u8 0) 1 1 Tryz.underlying83 hi hz0 hz1 hz2 rfl (by decide) _ _ _ rfl (HO.out.alloc _) ⟨w1.heap.size, 0, none⟩ 1 1 [.int .u8 (y.toNat : Int)] rfl rfl ?k1 ?k2 ?k3 ?k4 ?k5 ?_)
  case k1 => exact new_cell _ _ rfl _ _
  case k2 => intro u hu; simp at hu; subst hu; rfl
  case k3 => unfold maxLen; omega
  case k4 => omega
  case k5 => simp; omega
  intro v' w2 hown2 hg _
  have hbk2 : w2.heap[b]? = some (.cells #[.pointer (some ⟨b, 0, none⟩), v] 110 (0, 0)) := by
    rw [hg.block b (by simp; omega) (fun e => HN.out e.symm)]
    exact (Lib.alloc_old w1 _ b hlt).trans HK.out
  have d0 : w2.cell? ⟨b, 0, none⟩ = some (.pointer (some ⟨b, 0, none⟩)) := by rw [Lib.cell_of_heap hbk2]; rfl
  have d1 : w2.cell? ⟨b, 1, none⟩ = some v := by rw [Lib.cell_of_heap hbk2]; rfl
  have f1 : w2.frozen? ⟨b, 1, none⟩ = false := Lib.frozen_of_heap hbk2 1
  obtain ⟨a', n', cap', rfl⟩ : ∃ a' n' cap', v' = .slice a' n' cap' := by
    rcases hown2.2 with ⟨hv, _⟩ | ⟨_, _, _, hv, _⟩ <;> exact ⟨_, _, _, hv⟩
  have hput := Lib.BuilderAt.put (T := 110) (e := 5) hb hbk2 (bs' := bs ++ [.int .u8 (y.toNat : Int)]) (by rw [List.length_append]; exact hown2) (by decide)
  have hbel2 : Below B w w2 := (hbel.alloc (by omega) _).grown hg (by simp; omega) (fun k hk => (HO.out.lt k hk).1)
  have HP := Lib.hid hput
  have HB := Lib.hid hbel2
  clear hput hbel2 hown2 hg hbk2 c0 c1
  go_wp2
  go_ret
  exact ⟨rfl, .inr HP.out, HB.out.setCell (p := ⟨b, 1, none⟩) hb _⟩
end Go.Proofs.YtflmfbcjmjlkbaaGreatDoor
end
section
/- A text made longer, as the program does it. -/
set_option maxRecDepth 100000
namespace Sh
theorem zeros_lt (n : Nat) : zeros n < 64 := Nat.mod_lt _ (by decide)
theorem be8_len (n : Nat) : (be8 n).length = 8 := by simp [be8]
theorem be8_at (n k : Nat) (h : k < 8) : (be8 n).take (k + 1) = (be8 n).take k ++ [UInt8.ofNat (n / 2 ^ (8 * (7 - k)) % 256)] := by
  rw [List.take_succ_eq_append_getElem (by rw [be8_len]; exact h)]
  simp [be8]
end Sh
namespace Go.Proofs.YtflmfbcjmjlkbaaGreatDoor
open Go.RowKit

theorem byte_len (n e : Nat) : ((UInt8.ofNat (8 * n / 2 ^ e % 256)).toNat : Int) = (n : Int) * 8 / 2 ^ e % 256 := by
  rw [UInt8.toNat_ofNat']
  have e1 : (8 * n / 2 ^ e % 256) % 2 ^ 8 = n * 8 / 2 ^ e % 256 := by rw [Nat.mul_comm 8 n]; omega
  rw [e1]
  simp
theorem writeByte_eq {n : Int} {y : UInt8} (hn : (y.toNat : Int) = n) (B b : Nat) (bs : List UInt8) (w : World) (h : Lib.IsBuilder 110 5 B b (bs.map bv) w) (hl : bs.length + 1 ≤ 140737488355328) (hB : B ≤ w.heap.size) :
    Calls Tryz.prog 106 #[.pointer (some ⟨b, 0, none⟩), .int .u8 n] w fun e w' => e = .returned .nilIface ∧ Lib.IsBuilder 110 5 B b ((bs ++ [y]).map bv) w' ∧ Below B w w' := by
  subst hn
  have := writeByte_any B b (bs.map bv) y w h (by simpa using hl) hB
  simpa [bv] using this

set_option maxHeartbeats 2000000 in
theorem ppad (s : List UInt8) (hs : s.length ≤ 140737488351232) (w : World) :
    Calls Tryz.prog 89 #[tx s] w fun e w' => e = .returned (tx (Sh.pad s)) ∧ Below w.heap.size w w' := by
  have hbk : (w.alloc (.cells #[.pointer none, .slice none 0 0] 110)).heap[w.heap.size]? = some (.cells #[.pointer none, .slice none 0 0] 110 (0, 0)) := heap_alloc_last w _
  have HBK := Lib.hid hbk
  have hb0 : Below w.heap.size w (w.alloc (.cells #[.pointer none, .slice none 0 0] 110)) := (Below.refl _ _).alloc (Nat.le_refl _) _
  have HB0 := Lib.hid hb0
  obtain ⟨z, hz⟩ : ∃ z, Sh.zeros s.length = z := ⟨_, rfl⟩
  have hzl : z < 64 := by rw [← hz]; exact Sh.zeros_lt _
  have EZ := Lib.hid (show (119 - (s.length : Int) % 64) % 64 = (z : Int) by rw [← hz]; unfold Sh.zeros; omega)
  have EG := Lib.hid (show (s.length : Int) + 1 + (119 - (s.length : Int)) % 64 + 8 = ((s.length + 9 + z : Nat) : Int) by rw [← hz]; unfold Sh.zeros; omega)
  have HPD := Lib.hid (show Sh.pad s = (s ++ 128 :: List.replicate z 0) ++ (Sh.be8 (8 * s.length)).take 8 by
    rw [Sh.pad, hz, List.take_of_length_le (by rw [Sh.be8_len]; exact Nat.le_refl _)]; simp)
  clear hbk hb0 hz
  go_enter Tryz.func89, Tryz.ntmps89
  go_wp2_with fail
  rw [EG.out, EZ.out]
  refine (builderGrow_any w.heap.size w.heap.size _ _ (Nat.le_refl _) HBK.out (by simp) (by omega)).mono ?_
  rintro e w1 ⟨rfl, hi1, hb1⟩
  have HI1 := Lib.hid hi1
  have HB1 := Lib.hid (HB0.out.trans hb1)
  clear hi1 hb1
  go_wp2_with fail
  refine (writeString_any w.heap.size w.heap.size [] s _ HI1.out (by simp; omega) HB1.out.size).mono ?_
  rintro e w2 ⟨rfl, hi2, hb2⟩
  have HI2 := Lib.hid hi2
  have HB2 := Lib.hid (HB1.out.trans hb2)
  clear hi2 hb2
  go_wp2_with fail
  refine (writeByte_eq (y := 128) rfl w.heap.size w.heap.size s _ (by simpa using HI2.out) (by omega) HB2.out.size).mono ?_
  rintro e w3 ⟨rfl, hi3, hb3⟩
  have HI3 := Lib.hid hi3
  have HB3 := Lib.hid (HB2.out.trans hb3)
  clear hi3 hb3
  go_wp2_with fail
  go_loopw [27] (fun i wr => ∃ k : Nat, i = .int .i64 k ∧ k ≤ z ∧ Lib.IsBuilder 110 5 w.heap.size w.heap.size ((s ++ 128 :: List.replicate k 0).map bv) wr ∧ Below w.heap.size w wr) (fun i _ => z - (intOf i).toNat)
  case atStart => exact ⟨0, rfl, by omega, by simpa using HI3.out, HB3.out⟩
  case round =>
    obtain ⟨k, rfl, hk, hi, hbel⟩ := hrel
    have HI := Lib.hid hi
    have HB := Lib.hid hbel
    clear hi hbel
    by_cases hlt : k < z
    · go_wp2_with fail
      refine (writeByte_eq (y := 0) rfl w.heap.size w.heap.size _ _ HI.out (by simp; omega) HB.out.size).mono ?_
      rintro e w4 ⟨rfl, hi4, hb4⟩
      have HI4 := Lib.hid (show Lib.IsBuilder 110 5 w.heap.size w.heap.size ((s ++ 128 :: List.replicate (k + 1) 0).map bv) w4 by rw [List.replicate_succ']; simpa using hi4)
      have HB4 := Lib.hid (HB.out.trans hb4)
      clear hi4 hb4
      go_wp2
      go_roundw
      case rel => exact ⟨k + 1, by go_num, hlt, HI4.out, HB4.out⟩
      case measure => simp [intOf]; omega
    · obtain rfl : k = z := by omega
      go_wp2_with fail
      go_loopw [6, 31] (fun _ i wr => ∃ j : Nat, i = .int .i64 j ∧ j ≤ 8 ∧ Lib.IsBuilder 110 5 w.heap.size w.heap.size (((s ++ 128 :: List.replicate k 0) ++ (Sh.be8 (8 * s.length)).take j).map bv) wr ∧ Below w.heap.size w wr) (fun _ i _ => 8 - (intOf i).toNat)
      case atStart => exact ⟨0, rfl, by omega, by simpa using HI.out, HB.out⟩
      case round =>
        obtain ⟨j, rfl, hj, hi, hbel⟩ := hrel
        have HI2 := Lib.hid hi
        have HB2 := Lib.hid hbel
        clear hi hbel
        by_cases hlt8 : j < 8
        · go_wp2_with fail
          refine (writeByte_eq (y := UInt8.ofNat (8 * s.length / 2 ^ (8 * (7 - j)) % 256)) (byte_len s.length (8 * (7 - j))) w.heap.size w.heap.size _ _ HI2.out (by simp [Sh.be8_len]; omega) HB2.out.size).mono ?_
          rintro e w4 ⟨rfl, hi4, hb4⟩
          rw [List.append_assoc, ← Sh.be8_at _ _ hlt8] at hi4
          have HI4 := Lib.hid hi4
          have HB4 := Lib.hid (HB2.out.trans hb4)
          clear hi4 hb4
          go_wp2
          go_roundw
          case rel => exact ⟨j + 1, by go_num, hlt8, HI4.out, HB4.out⟩
          case measure => simp [intOf]; omega
        · obtain rfl : j = 8 := by omega
          obtain ⟨P, hP⟩ : ∃ P, (s ++ 128 :: List.replicate k 0) ++ (Sh.be8 (8 * s.length)).take 8 = P := ⟨_, rfl⟩
          rw [hP] at HI2 HPD
          clear hP
          go_wp2_with fail
          refine (string_any w.heap.size w.heap.size _ _ HI2.out HB2.out.size).mono ?_
          rintro e w6 ⟨rfl, hb6⟩
          have HB6 := Lib.hid (HB2.out.trans hb6)
          clear hb6
          go_wp2
          go_ret
          exact ⟨by rw [HPD.out]; rfl, HB6.out⟩
end Go.Proofs.YtflmfbcjmjlkbaaGreatDoor
end
section
/- A state's bytes, as the program makes them. -/
namespace Sh
theorem spell_at (a b c d e f g k : Nat) (i : Nat) (h : i < 32) : (spell [a, b, c, d, e, f, g, k]).take (i + 1) = (spell [a, b, c, d, e, f, g, k]).take i ++ [UInt8.ofNat (([a, b, c, d, e, f, g, k].getD (i / 4) 0) / 2 ^ (8 * (3 - i % 4)) % 256)] := by
  match i, h with
  | 0, _ => simp [spell, be4]
  | 1, _ => simp [spell, be4]
  | 2, _ => simp [spell, be4]
  | 3, _ => simp [spell, be4]
  | 4, _ => simp [spell, be4]
  | 5, _ => simp [spell, be4]
  | 6, _ => simp [spell, be4]
  | 7, _ => simp [spell, be4]
  | 8, _ => simp [spell, be4]
  | 9, _ => simp [spell, be4]
  | 10, _ => simp [spell, be4]
  | 11, _ => simp [spell, be4]
  | 12, _ => simp [spell, be4]
  | 13, _ => simp [spell, be4]
  | 14, _ => simp [spell, be4]
  | 15, _ => simp [spell, be4]
  | 16, _ => simp [spell, be4]
  | 17, _ => simp [spell, be4]
  | 18, _ => simp [spell, be4]
  | 19, _ => simp [spell, be4]
  | 20, _ => simp [spell, be4]
  | 21, _ => simp [spell, be4]
  | 22, _ => simp [spell, be4]
  | 23, _ => simp [spell, be4]
  | 24, _ => simp [spell, be4]
  | 25, _ => simp [spell, be4]
  | 26, _ => simp [spell, be4]
  | 27, _ => simp [spell, be4]
  | 28, _ => simp [spell, be4]
  | 29, _ => simp [spell, be4]
  | 30, _ => simp [spell, be4]
  | 31, _ => simp [spell, be4]
  | n + 32, h => omega
theorem spell_len (a b c d e f g k : Nat) : (spell [a, b, c, d, e, f, g, k]).length = 32 := rfl
end Sh
namespace Go.Proofs.YtflmfbcjmjlkbaaGreatDoor
open Go.RowKit

/-- The block B holds the bytes ys. -/
def BRow (W : World) (B : Nat) (t : TypeId) (ys : List UInt8) : Prop := W.heap[B]? = some (.cells (ys.map bv).toArray t (0, 0))
theorem BRow.lt {W : World} {B : Nat} {t : TypeId} {ys : List UInt8} (h : BRow W B t ys) : B < W.heap.size := (Array.getElem?_eq_some_iff.1 h).1
theorem BRow.cell {W : World} {B : Nat} {t : TypeId} {ys : List UInt8} (h : BRow W B t ys) (i : Nat) (hi : i < ys.length) : W.cell? ⟨B, i, none⟩ = some (bv ys[i]) := by
  have e : W.heap[B]? = _ := h
  simp [World.cell?, e, hi]
theorem BRow.frozen {W : World} {B : Nat} {t : TypeId} {ys : List UInt8} (h : BRow W B t ys) (i : Nat) : W.frozen? ⟨B, i, none⟩ = false := by
  have e : W.heap[B]? = _ := h
  simp [World.frozen?, e]
theorem BRow.set {W : World} {B : Nat} {t : TypeId} {ys : List UInt8} (h : BRow W B t ys) (i : Nat) (v : UInt8) : BRow (W.setCell ⟨B, i, none⟩ (bv v)) B t (ys.set i v) := by
  obtain ⟨hlt, hk⟩ := Array.getElem?_eq_some_iff.1 h
  show (W.heap.modify B _)[B]? = _
  rw [Array.getElem?_eq_getElem (by rw [Array.size_modify]; exact hlt), Array.getElem_modify_self, hk]
  simp [List.map_set]
theorem BRow.text {W : World} {B : Nat} {t : TypeId} {ys : List UInt8} (h : BRow W B t ys) (n : Nat) (hn : ys.length = n) (c : Nat) :
    (convert 83 9 (.slice (some ⟨B, 0, none⟩) n c)).run Tryz.prog W = .ok (tx ys) W := by
  subst hn
  rw [run_convert_bytes_arg (P := Tryz.prog) W 83 5 Tryz.underlying83 Tryz.underlying5 B 0 ys.length c (ys.map fun y => (y.toNat : Int)) (by simp) (fun i hi => by
    rw [Nat.zero_add, h.cell i hi]
    simp [List.getD, hi, bv]) 9 Tryz.underlying9, strOfNums_bytes]

theorem set_step {α : Type} (l : List α) (z v : α) (n k : Nat) (hl : l.length = n) (hk : k < n) (h : l.take (k + 1) = l.take k ++ [v]) : ((l.take k) ++ List.replicate (n - k) z).set k v = l.take (k + 1) ++ List.replicate (n - (k + 1)) z := by
  obtain ⟨j, hj⟩ : ∃ j, n - k = j + 1 := ⟨n - k - 1, by omega⟩
  have hlk : (l.take k).length = k := by simp; omega
  rw [hj, List.set_append_right _ _ (by omega), hlk, Nat.sub_self, List.replicate_succ, List.set_cons_zero, h, show n - (k + 1) = j by omega]
  simp

theorem byte_of (x e : Nat) : bv (UInt8.ofNat (x / 2 ^ e % 256)) = .int .u8 ((x : Int) / 2 ^ e % 256) := by
  unfold bv
  rw [UInt8.toNat_ofNat', show (x / 2 ^ e % 256) % 2 ^ 8 = x / 2 ^ e % 256 by omega]
  simp

set_option maxHeartbeats 2000000 in
set_option maxRecDepth 100000 in
theorem pspell (a b c d e f g k : Nat) (w : World) :
    Calls Tryz.prog 91 #[.agg #[uv a, uv b, uv c, uv d, uv e, uv f, uv g, uv k]] w fun ee w' => ee = .returned (tx (Sh.spell [a, b, c, d, e, f, g, k])) ∧ Below w.heap.size w w' := by
  have hbox : ARow (w.alloc (.cells #[uv a, uv b, uv c, uv d, uv e, uv f, uv g, uv k] 94)) w.heap.size 94 [a, b, c, d, e, f, g, k] := ARow.new w 94 [a, b, c, d, e, f, g, k]
  have hbox2 := hbox.alloc (.cells ((List.replicate 32 (0 : UInt8)).map bv).toArray 145)
  have hrow : BRow ((w.alloc (.cells #[uv a, uv b, uv c, uv d, uv e, uv f, uv g, uv k] 94)).alloc (.cells ((List.replicate 32 (0 : UInt8)).map bv).toArray 145)) (w.heap.size + 1) 145 (List.replicate 32 0) := by
    have := heap_alloc_last (w.alloc (.cells #[uv a, uv b, uv c, uv d, uv e, uv f, uv g, uv k] 94)) (.cells ((List.replicate 32 (0 : UInt8)).map bv).toArray 145)
    simp only [World.size_alloc] at this
    exact this
  have hg0 : Below w.heap.size w ((w.alloc (.cells #[uv a, uv b, uv c, uv d, uv e, uv f, uv g, uv k] 94)).alloc (.cells ((List.replicate 32 (0 : UInt8)).map bv).toArray 145)) := ((Below.refl _ _).alloc (Nat.le_refl _) _).alloc (by simp) _
  have HX := Lib.hid hbox2
  have HR := Lib.hid hrow
  have HG := Lib.hid hg0
  have hsl := Sh.spell_len a b c d e f g k
  have HSA := Lib.hid (Sh.spell_at a b c d e f g k)
  obtain ⟨sp, hsp⟩ : ∃ x, Sh.spell [a, b, c, d, e, f, g, k] = x := ⟨_, rfl⟩
  rw [hsp] at hsl HSA
  have HSP := Lib.hid hsp
  have HSL := Lib.hid hsl
  clear hbox hbox2 hrow hg0 hsp hsl
  go_enter Tryz.func91, Tryz.ntmps91
  go_wp2_with fail
  go_loopw [4, 5] (fun _ i wr => ∃ n : Nat, i = .int .i64 n ∧ n ≤ 32 ∧ ARow wr w.heap.size 94 [a, b, c, d, e, f, g, k] ∧ BRow wr (w.heap.size + 1) 145 (sp.take n ++ List.replicate (32 - n) 0) ∧ Below w.heap.size w wr) (fun _ i _ => 32 - (intOf i).toNat)
  case atStart => exact ⟨0, rfl, by omega, HX.out, HR.out, HG.out⟩
  case round =>
    obtain ⟨n, rfl, hn, hx, hr, hbel⟩ := hrel
    by_cases hlt : n < 32
    · obtain ⟨j, hj⟩ : ∃ j, n / 4 = j := ⟨_, rfl⟩
      obtain ⟨r, hr4⟩ : ∃ r, n % 4 = r := ⟨_, rfl⟩
      have hq : (n : Int) / 4 = (j : Int) := by omega
      have hm : (n : Int) % 4 = (r : Int) := by omega
      have hjl : j < 8 := by omega
      have hrl : r < 4 := by omega
      have hc := hx.cell j (by simpa using hjl)
      obtain ⟨v, hv⟩ : ∃ v, [a, b, c, d, e, f, g, k][j]'(by simpa using hjl) = v := ⟨_, rfl⟩
      rw [hv] at hc
      have hln : (sp.take n ++ List.replicate (32 - n) (0 : UInt8)).length = 32 := by simp [HSL.out]; omega
      have hcb := hr.cell n (by omega)
      have hfz := hr.frozen n
      obtain ⟨y0, hy0⟩ : ∃ y, (sp.take n ++ List.replicate (32 - n) (0 : UInt8))[n]'(by omega) = y := ⟨_, rfl⟩
      rw [hy0] at hcb
      have hst : sp.take (n + 1) = sp.take n ++ [UInt8.ofNat (v / 2 ^ (8 * (3 - r)) % 256)] := by
        rw [HSA.out n hlt, hj, hr4]
        have : [a, b, c, d, e, f, g, k].getD j 0 = v := by rw [List.getD, List.getElem?_eq_getElem (by simpa using hjl)]; exact hv
        rw [this]
      have hset := set_step sp 0 _ 32 n HSL.out hlt hst
      have hnew := hr.set n (UInt8.ofNat (v / 2 ^ (8 * (3 - r)) % 256))
      rw [hset, byte_of] at hnew
      have HN := Lib.hid hnew
      have HXX := Lib.hid hx
      have HB := Lib.hid hbel
      clear hx hr hbel hv hy0 hst hset hnew hj hr4 hln
      have w2' : (0 : Int) ≤ (j : Int) := by omega
      have w3' : (j : Int) < 8 := by omega
      go_wp2
      go_roundw
      case rel => exact ⟨n + 1, by go_num, by omega, HXX.out.other _ _ _ (by omega), HN.out, HB.out.setCell (p := ⟨w.heap.size + 1, n, none⟩) (by simp) _⟩
      case measure => simp [intOf]; omega
    · obtain rfl : n = 32 := by omega
      have hr2 : BRow wr (w.heap.size + 1) 145 sp := by
        have h := hr
        rw [List.take_of_length_le (by rw [HSL.out]; exact Nat.le_refl _)] at h
        simpa using h
      have htx := hr2.text 32 HSL.out 32
      have HB := Lib.hid hbel
      clear hx hr hr2 hbel
      go_wp2
      go_ret
      exact ⟨by rw [HSP.out]; rfl, HB.out⟩
end Go.Proofs.YtflmfbcjmjlkbaaGreatDoor
end
section
/- A text's digest, as the program makes it. -/
namespace Sh
theorem pad_len (s : List UInt8) : (pad s).length = s.length + 9 + zeros s.length := by simp [pad, be8_len]; omega
theorem pad_64 (s : List UInt8) : (pad s).length % 64 = 0 := by rw [pad_len, zeros]; omega
theorem block_lt (h : List Nat) (b : List UInt8) : ∀ x ∈ block h b, x < 4294967296 := by
  intro x hx
  unfold block at hx
  generalize toL (rounds (ofL h) (sched b) 64) = ys at hx
  induction h generalizing ys with
  | nil => simp at hx
  | cons a h ih =>
    cases ys with
    | nil => simp at hx
    | cons y ys =>
      rw [List.zipWith_cons_cons, List.mem_cons] at hx
      rcases hx with rfl | hx
      · exact add_lt _ _
      · exact ih ys hx
theorem after_len (p : List UInt8) : ∀ n, (after p n).length = 8 := by
  intro n
  induction n with
  | zero => rfl
  | succ n ih =>
    rw [after, block, List.length_zipWith, ih]
    rfl
theorem after_lt (p : List UInt8) : ∀ n, ∀ x ∈ after p n, x < 4294967296 := by
  intro n
  cases n with
  | zero => show ∀ x ∈ first, x < 4294967296; decide
  | succ n => exact block_lt _ _
theorem eight (l : List Nat) (h : l.length = 8) : ∃ a b c d e f g k, l = [a, b, c, d, e, f, g, k] := by
  match l, h with
  | [a, b, c, d, e, f, g, k], _ => exact ⟨a, b, c, d, e, f, g, k, rfl⟩
theorem after_ok (p : List UInt8) (n : Nat) (a b c d e f g k : Nat) (h : after p n = [a, b, c, d, e, f, g, k]) : Ok (a, b, c, d, e, f, g, k) := by
  have := after_lt p n
  rw [h] at this
  refine ⟨this a ?_, this b ?_, this c ?_, this d ?_, this e ?_, this f ?_, this g ?_, this k ?_⟩ <;> simp
end Sh
namespace Go.Proofs.YtflmfbcjmjlkbaaGreatDoor
open Go.RowKit

theorem ba_mid (r : List UInt8) (i j : Nat) : (ByteArray.mk r.toArray).extract i j = ByteArray.mk ((r.drop i).take (j - i)).toArray := by
  apply ByteArray.ext
  apply Array.toList_inj.1
  rw [Lib.extract_data]

set_option maxHeartbeats 1000000 in
theorem pfirst (w : World) : Calls Tryz.prog 88 #[] w fun e w' => e = .returned (.agg (Sh.first.map uv).toArray) ∧ Below w.heap.size w w' := by
  go_enter Tryz.func88, Tryz.ntmps88
  go_wp2
  refine bodyPost_ret (v := .agg (Sh.first.map uv).toArray) (by simp [results, Tryz.results88, go_sem, Sh.first, uv]) rfl ⟨rfl, (Below.refl _ _).alloc (Nat.le_refl _) _⟩

set_option maxHeartbeats 2000000 in
set_option maxRecDepth 100000 in
theorem psum (s : List UInt8) (hs : s.length ≤ 140737488351232) (w : World) (hw : GW w) :
    Calls Tryz.prog 60 #[tx s] w fun e w' => e = .returned (tx (Sh.sum s)) ∧ Below w.heap.size w w' := by
  obtain ⟨p, hp⟩ : ∃ p, Sh.pad s = p := ⟨_, rfl⟩
  have hp64 := Sh.pad_64 s
  have hpl := Sh.pad_len s
  have hz := Sh.zeros_lt s.length
  rw [hp] at hp64 hpl
  obtain ⟨N, hN⟩ : ∃ N, p.length = 64 * N := ⟨p.length / 64, by omega⟩
  have HSM := Lib.hid (show Sh.sum s = Sh.spell (Sh.after p N) by rw [Sh.sum, hp, hN, Nat.mul_div_cancel_left _ (by decide)])
  have HPD := Lib.hid (show ∀ W, Calls Tryz.prog 89 #[tx s] W fun e w' => e = .returned (tx p) ∧ Below W.heap.size W w' by rw [← hp]; exact fun W => ppad s hs W)
  have HGW := Lib.hid hw
  have hNb : p.length ≤ 140737488351304 := by omega
  have HN := Lib.hid hN
  clear hp hp64 hpl hz hw hs hN
  go_enter Tryz.func60, Tryz.ntmps60
  go_wp2_with fail
  refine (pfirst _).mono ?_
  rintro e w1 ⟨rfl, hb1⟩
  go_wp2_with fail
  refine (HPD.out _).mono ?_
  rintro e w2 ⟨rfl, hb2⟩
  have hx := ARow.new w2 94 (List.replicate 8 0)
  have HX0 := Lib.hid hx
  have HB0 := Lib.hid ((grow_trans hb1 hb2).alloc (grow_trans hb1 hb2).size (.cells ((List.replicate 8 0).map uv).toArray 94))
  have hB0 : w.heap.size ≤ w2.heap.size := (grow_trans hb1 hb2).size
  clear hx hb1 hb2
  go_wp2_with (refine store_arow rfl 94 _ _ rfl w2.heap.size (List.replicate 8 0) Sh.first rfl rfl HX0.out 8 info8 (by simp) rfl ?_; intro w3 k1 k2 k3)
  have HX := Lib.hid k1
  have HB := Lib.hid (k2 w.heap.size w hB0 HB0.out)
  clear k1 k2 k3 HX0 HB0
  go_loopw [5] (fun i wr => ∃ (n m : Nat), i = .int .i64 m ∧ n ≤ N ∧ m = 64 * n ∧ ARow wr w2.heap.size 94 (Sh.after p n) ∧ Below w.heap.size w wr) (fun i _ => 64 * N - (intOf i).toNat)
  case atStart => exact ⟨0, 0, rfl, by omega, rfl, HX.out, HB.out⟩
  case round =>
    obtain ⟨n, m, rfl, hn, hm, hx, hbel⟩ := hrel
    obtain ⟨a, b, c, d, e, f, g, k, hh⟩ := Sh.eight _ (Sh.after_len p n)
    have hok := Sh.after_ok p n a b c d e f g k hh
    have hsz := hx.lt
    have HH := Lib.hid hh
    have HM := Lib.hid hm
    rw [hh] at hx
    have HX2 := Lib.hid hx
    have HB2 := Lib.hid hbel
    clear hx hbel hh hm
    by_cases hlt : n < N
    · have hml : m + 64 ≤ p.length := by rw [HN.out, HM.out]; omega
      have t1 : decide ((m : Int) < (p.length : Int)) = true := decide_eq_true (by omega)
      have c0 : wr.cell? ⟨w2.heap.size, 0, none⟩ = some (uv a) := HX2.out.cell 0 (by simp)
      have c1 : wr.cell? ⟨w2.heap.size, 1, none⟩ = some (uv b) := HX2.out.cell 1 (by simp)
      have c2 : wr.cell? ⟨w2.heap.size, 2, none⟩ = some (uv c) := HX2.out.cell 2 (by simp)
      have c3 : wr.cell? ⟨w2.heap.size, 3, none⟩ = some (uv d) := HX2.out.cell 3 (by simp)
      have c4 : wr.cell? ⟨w2.heap.size, 4, none⟩ = some (uv e) := HX2.out.cell 4 (by simp)
      have c5 : wr.cell? ⟨w2.heap.size, 5, none⟩ = some (uv f) := HX2.out.cell 5 (by simp)
      have c6 : wr.cell? ⟨w2.heap.size, 6, none⟩ = some (uv g) := HX2.out.cell 6 (by simp)
      have c7 : wr.cell? ⟨w2.heap.size, 7, none⟩ = some (uv k) := HX2.out.cell 7 (by simp)
      have w1' : IntKind.i64.wrap ((m : Int) + 64) = (m : Int) + 64 := IntWalk.i64_in _ ⟨by omega, by omega⟩
      have w2' : (0 : Int) ≤ (m : Int) := by omega
      have w3' : (m : Int) ≤ (m : Int) + 64 := by omega
      have w4' : (m : Int) + 64 ≤ (p.length : Int) := by omega
      have w5' : ((m : Int) + 64).toNat = m + 64 := by omega
      go_wp2_with fail
      have hbl : ((p.drop m).take 64).length = 64 := by simp; omega
      obtain ⟨x0, x1, x2, x3, x4, x5, x6, x7, hxx⟩ := Sh.eight (Sh.after p (n + 1)) (Sh.after_len p (n + 1))
      have hNX : Sh.block [a, b, c, d, e, f, g, k] ((p.drop m).take 64) = [x0, x1, x2, x3, x4, x5, x6, x7] := by rw [← hxx, Sh.after, HH.out, HM.out]
      have HXX := Lib.hid hxx
      have hcl : ∀ W, GW W → Calls Tryz.prog 90 #[.agg #[uv a, uv b, uv c, uv d, uv e, uv f, uv g, uv k], tx ((p.drop m).take 64)] W fun ee w' => ee = .returned (.tuple #[.agg #[uv x0, uv x1, uv x2, uv x3, uv x4, uv x5, uv x6, uv x7], .int .i64 0]) ∧ Below W.heap.size W w' := by
        intro W hW
        have := pblock8 a b c d e f g k hok _ hbl W hW
        rw [hNX] at this
        exact this
      have HCL := Lib.hid hcl
      have HBA := Lib.hid (show (ByteArray.mk p.toArray).extract m (m + 64) = ByteArray.mk ((p.drop m).take 64).toArray by rw [ba_mid, Nat.add_sub_cancel_left])
      have HGR := Lib.hid (show GW wr.drew from HGW.out.below HB2.out.drew)
      have HX3 := Lib.hid (show ARow wr.drew w2.heap.size 94 [a, b, c, d, e, f, g, k] from HX2.out)
      have HB3 := Lib.hid (show Below w.heap.size w wr.drew from HB2.out.drew)
      have w6' := HBA.out
      clear hxx hNX hcl hbl
      go_region_with (go_at_call 90; refine (HCL.out _ HGR.out).mono ?_; rintro ee w4 ⟨rfl, hb4⟩; have HX5 := Lib.hid (HX3.out.kept hb4); have HB5 := Lib.hid (grow_trans HB3.out hb4); clear hb4; have f0 := HX5.out.frozen 0; have f1 := HX5.out.frozen 1; have f2 := HX5.out.frozen 2; have f3 := HX5.out.frozen 3; have f4 := HX5.out.frozen 4; have f5 := HX5.out.frozen 5; have f6 := HX5.out.frozen 6; have f7 := HX5.out.frozen 7; have y0 : w4.cell? ⟨w2.heap.size, 0, none⟩ = some (uv a) := HX5.out.cell 0 (by simp); have y1 : w4.cell? ⟨w2.heap.size, 1, none⟩ = some (uv b) := HX5.out.cell 1 (by simp); have y2 : w4.cell? ⟨w2.heap.size, 2, none⟩ = some (uv c) := HX5.out.cell 2 (by simp); have y3 : w4.cell? ⟨w2.heap.size, 3, none⟩ = some (uv d) := HX5.out.cell 3 (by simp); have y4 : w4.cell? ⟨w2.heap.size, 4, none⟩ = some (uv e) := HX5.out.cell 4 (by simp); have y5 : w4.cell? ⟨w2.heap.size, 5, none⟩ = some (uv f) := HX5.out.cell 5 (by simp); have y6 : w4.cell? ⟨w2.heap.size, 6, none⟩ = some (uv g) := HX5.out.cell 6 (by simp); have y7 : w4.cell? ⟨w2.heap.size, 7, none⟩ = some (uv k) := HX5.out.cell 7 (by simp))
      all_goals
        have z8 := ((((((((HX5.out.set 0 x0).set 1 x1).set 2 x2).set 3 x3).set 4 x4).set 5 x5).set 6 x6).set 7 x7)
        have b8 := ((((((((HB5.out.setCell (p := ⟨w2.heap.size, 0, none⟩) hB0 (uv x0)).setCell (p := ⟨w2.heap.size, 1, none⟩) hB0 (uv x1)).setCell (p := ⟨w2.heap.size, 2, none⟩) hB0 (uv x2)).setCell (p := ⟨w2.heap.size, 3, none⟩) hB0 (uv x3)).setCell (p := ⟨w2.heap.size, 4, none⟩) hB0 (uv x4)).setCell (p := ⟨w2.heap.size, 5, none⟩) hB0 (uv x5)).setCell (p := ⟨w2.heap.size, 6, none⟩) hB0 (uv x6)).setCell (p := ⟨w2.heap.size, 7, none⟩) hB0 (uv x7))
        have e9 : (((((((([a, b, c, d, e, f, g, k].set 0 x0).set 1 x1).set 2 x2).set 3 x3).set 4 x4).set 5 x5).set 6 x6).set 7 x7) = Sh.after p (n + 1) := by rw [HXX.out]; rfl
        rw [e9] at z8
        have HZ9 := Lib.hid z8
        have HB9 := Lib.hid b8
        clear z8 e9 b8 f0 f1 f2 f3 f4 f5 f6 f7 y0 y1 y2 y3 y4 y5 y6 y7 c0 c1 c2 c3 c4 c5 c6 c7 w6'
        go_wp2
        go_roundw
        case rel => exact ⟨n + 1, m + 64, by go_num, hlt, by rw [HM.out]; omega, HZ9.out, HB9.out⟩
        case measure =>
          have := HM.out
          simp [intOf]
          omega
    · obtain rfl : n = N := by omega
      have t1 : decide (m < p.length) = false := decide_eq_false (by rw [HN.out, HM.out]; omega)
      have t2 : ¬ m < p.length := by rw [HN.out, HM.out]; omega
      have c0 : wr.cell? ⟨w2.heap.size, 0, none⟩ = some (uv a) := HX2.out.cell 0 (by simp)
      have c1 : wr.cell? ⟨w2.heap.size, 1, none⟩ = some (uv b) := HX2.out.cell 1 (by simp)
      have c2 : wr.cell? ⟨w2.heap.size, 2, none⟩ = some (uv c) := HX2.out.cell 2 (by simp)
      have c3 : wr.cell? ⟨w2.heap.size, 3, none⟩ = some (uv d) := HX2.out.cell 3 (by simp)
      have c4 : wr.cell? ⟨w2.heap.size, 4, none⟩ = some (uv e) := HX2.out.cell 4 (by simp)
      have c5 : wr.cell? ⟨w2.heap.size, 5, none⟩ = some (uv f) := HX2.out.cell 5 (by simp)
      have c6 : wr.cell? ⟨w2.heap.size, 6, none⟩ = some (uv g) := HX2.out.cell 6 (by simp)
      have c7 : wr.cell? ⟨w2.heap.size, 7, none⟩ = some (uv k) := HX2.out.cell 7 (by simp)
      have hfin := Lib.hid (show Sh.sum s = Sh.spell [a, b, c, d, e, f, g, k] by rw [HSM.out, HH.out])
      go_wp2_with fail
      refine (pspell a b c d e f g k _).mono ?_
      rintro ee w4 ⟨rfl, hb4⟩
      have HB5 := Lib.hid (grow_trans HB2.out hb4)
      clear hb4
      go_wp2
      go_ret
      exact ⟨by rw [hfin.out]; rfl, HB5.out⟩
end Go.Proofs.YtflmfbcjmjlkbaaGreatDoor
end
