/- Package book as it landed: how seals are held against each other. -/
import Derived.Test.YtpodccgaigkalaaBookRef2
import Derived.Test.YtpodccgaigkalaaBkSl
import Derived.Deep.RegionWith
import Derived.Deep.RegionHeld3
namespace Go.Proofs.Ytpodccgaigkalaa
open Go.RowKit

theorem bytesLess_eq : ∀ a b : List UInt8, Op.bytesLess a b = Dg.less a b := by
  intro a
  induction a with
  | nil => intro b; cases b <;> rfl
  | cons x a ih =>
    intro b
    cases b with
    | nil => rfl
    | cons y b =>
      rw [Op.bytesLess, Dg.less, ih]
      by_cases e : x = y
      · subst e; simp
      · simp [e, UInt8.lt_iff_toNat_lt]

def cmpI (a b : Int) : Int := if a < b then -1 else if b < a then 1 else 0
def cmpT (t u : List UInt8) : Int := if Dg.less t u then -1 else if Dg.less u t then 1 else 0
def cmpS (x y : Bk.Sl) : Int := if cmpI x.1 y.1 ≠ 0 then cmpI x.1 y.1 else cmpT x.2 y.2

theorem cmpS_pos (x y : Bk.Sl) : decide (0 < cmpS x y) = Bk.ahead y x := by
  rw [Bool.eq_iff_iff, decide_eq_true_iff, Bk.ahead_iff]
  unfold cmpS cmpI cmpT
  by_cases h1 : x.1 < y.1
  · simp [h1]; omega
  · by_cases h2 : y.1 < x.1
    · simp [h1, h2]
    · have e : y.1 = x.1 := by omega
      simp only [e, true_and, ne_eq]
      by_cases h3 : Dg.less x.2 y.2 = true
      · have : Dg.less y.2 x.2 = false := by
          cases h : Dg.less y.2 x.2 with
          | false => rfl
          | true =>
            have := Bk.less_trans _ _ _ h3 h
            rw [Bk.less_irr] at this; cases this
        simp [h3, this]
      · simp [h3]
        by_cases h4 : Dg.less y.2 x.2 = true
        · simp [h4]
        · simp [h4]
theorem cmpS_neg (x y : Bk.Sl) : decide (0 ≤ cmpS x y) = !(Bk.ahead x y) := by
  rw [Bool.eq_iff_iff, decide_eq_true_iff, Bool.not_eq_true']
  have h : Bk.ahead x y = false ↔ ¬ (x.1 < y.1 ∨ x.1 = y.1 ∧ Dg.less x.2 y.2 = true) := by
    rw [← Bk.ahead_iff]; simp
  rw [h]
  unfold cmpS cmpI cmpT
  by_cases h1 : x.1 < y.1
  · simp [h1]
  · by_cases h2 : y.1 < x.1
    · simp [h1, h2]; omega
    · have e : x.1 = y.1 := by omega
      simp only [e, true_and, ne_eq]
      by_cases h3 : Dg.less x.2 y.2 = true
      · simp [h3]
      · simp [h3]
        split <;> omega

set_option maxHeartbeats 1000000 in
theorem pcmpI (a b : Int) (w : World) : Calls Try.prog 33 #[.int .i64 a, .int .i64 b] w fun e w' => e = .returned (.int .i64 (cmpI a b)) ∧ w' = w := by
  have hn : ∀ (x : Int) (W : World), Calls Try.prog 40 #[.int .i64 x] W fun e w' => e = .returned (.bool false) ∧ w' = W := by
    intro x W
    have hx : (x != x) = false := by simp
    go_enter Try.func40, Try.ntmps40
    go_wp2
    go_ret
    exact ⟨rfl, rfl⟩
  unfold cmpI
  by_cases h1 : a < b
  · have t1 : decide (a < b) = true := by simpa using h1
    rw [if_pos h1]
    clear h1
    go_enter Try.func33, Try.ntmps33
    go_wp2_with fail
    refine (hn _ _).mono ?_
    rintro e w1 ⟨rfl, rfl⟩
    go_wp2_with fail
    refine (hn _ _).mono ?_
    rintro e w1 ⟨rfl, rfl⟩
    go_wp2
    go_ret
    exact ⟨rfl, rfl⟩
  · have t1 : decide (a < b) = false := by simpa using h1
    rw [if_neg h1]
    by_cases h2 : b < a
    · have t2 : decide (b < a) = true := by simpa using h2
      rw [if_pos h2]
      clear h1 h2
      go_enter Try.func33, Try.ntmps33
      go_wp2_with fail
      refine (hn _ _).mono ?_
      rintro e w1 ⟨rfl, rfl⟩
      go_wp2_with fail
      refine (hn _ _).mono ?_
      rintro e w1 ⟨rfl, rfl⟩
      go_wp2
      go_ret
      exact ⟨rfl, rfl⟩
    · have t2 : decide (b < a) = false := by simpa using h2
      rw [if_neg h2]
      clear h1 h2
      go_enter Try.func33, Try.ntmps33
      go_wp2_with fail
      refine (hn _ _).mono ?_
      rintro e w1 ⟨rfl, rfl⟩
      go_wp2_with fail
      refine (hn _ _).mono ?_
      rintro e w1 ⟨rfl, rfl⟩
      go_wp2
      go_ret
      exact ⟨rfl, rfl⟩

set_option maxHeartbeats 1000000 in
theorem pcmpT (a b : List UInt8) (w : World) : Calls Try.prog 34 #[tx a, tx b] w fun e w' => e = .returned (.int .i64 (cmpT a b)) ∧ w' = w := by
  have hn : ∀ (x : List UInt8) (W : World), Calls Try.prog 41 #[tx x] W fun e w' => e = .returned (.bool false) ∧ w' = W := by
    intro x W
    go_enter Try.func41, Try.ntmps41
    go_wp2
    go_ret
    exact ⟨by simp, rfl⟩
  unfold cmpT
  cases h1 : Dg.less a b with
  | true =>
    have t1 : Op.bytesLess a b = true := by rw [bytesLess_eq]; exact h1
    clear h1
    go_enter Try.func34, Try.ntmps34
    go_wp2_with fail
    refine (hn _ _).mono ?_
    rintro e w1 ⟨rfl, rfl⟩
    go_wp2_with fail
    refine (hn _ _).mono ?_
    rintro e w1 ⟨rfl, rfl⟩
    go_wp2
    go_ret
    exact ⟨rfl, rfl⟩
  | false =>
    have t1 : Op.bytesLess a b = false := by rw [bytesLess_eq]; exact h1
    cases h2 : Dg.less b a with
    | true =>
      have t2 : (a == b) = false := by
        rw [beq_eq_false_iff_ne]
        intro e
        subst e
        rw [h1] at h2; cases h2
      clear h1 h2
      go_enter Try.func34, Try.ntmps34
      go_wp2_with fail
      refine (hn _ _).mono ?_
      rintro e w1 ⟨rfl, rfl⟩
      go_wp2_with fail
      refine (hn _ _).mono ?_
      rintro e w1 ⟨rfl, rfl⟩
      go_wp2
      go_ret
      exact ⟨rfl, rfl⟩
    | false =>
      obtain rfl := Bk.less_total _ _ h1 h2
      clear h1 h2
      have t2 : (a == a) = true := by simp
      go_enter Try.func34, Try.ntmps34
      go_wp2_with fail
      refine (hn _ _).mono ?_
      rintro e w1 ⟨rfl, rfl⟩
      go_wp2_with fail
      refine (hn _ _).mono ?_
      rintro e w1 ⟨rfl, rfl⟩
      go_wp2
      go_ret
      exact ⟨rfl, rfl⟩

/-- The first of two numbers that isn't 0. -/
def orI (a b : Int) : Int := if a ≠ 0 then a else b
set_option maxHeartbeats 1000000 in
theorem por (B : Nat) (a b : Int) (w : World) (h0 : w.cell? ⟨B, 0, none⟩ = some (.int .i64 a)) (h1 : w.cell? ⟨B, 1, none⟩ = some (.int .i64 b)) :
    Calls Try.prog 32 #[.slice (some ⟨B, 0, none⟩) 2 2] w fun e w' => e = .returned (.int .i64 (orI a b)) ∧ w' = w := by
  unfold orI
  by_cases ha : a = 0
  · subst ha
    rw [if_neg (by simp)]
    by_cases hb : b = 0
    · subst hb
      go_enter Try.func32, Try.ntmps32
      go_wp2_with fail
      refine wp_loop_rounds 3 ?_
      rw [rounds_succ]
      go_wp2
      rw [rounds_succ]
      go_wp2
      rw [rounds_succ]
      go_wp2
      go_ret
      exact ⟨rfl, rfl⟩
    · have t2 : (b != 0) = true := by simpa using hb
      clear hb
      go_enter Try.func32, Try.ntmps32
      go_wp2_with fail
      refine wp_loop_rounds 2 ?_
      rw [rounds_succ]
      go_wp2
      rw [rounds_succ]
      go_wp2
      go_ret
      exact ⟨rfl, rfl⟩
  · have t1 : (a != 0) = true := by simpa using ha
    rw [if_pos ha]
    clear ha
    go_enter Try.func32, Try.ntmps32
    go_wp2_with fail
    refine wp_loop_rounds 1 ?_
    rw [rounds_succ]
    go_wp2
    go_ret
    exact ⟨rfl, rfl⟩

/-- A seal as a value. -/
abbrev sv (s : Bk.Sl) : Value := .agg #[iv s.1, tx s.2]
theorem keepB {F : Nat} {args : Array Value} {r : Value} {w : World} (S : World → Prop) (hk : ∀ a b, S a → Below a.heap.size a b → S b) (hc : Calls Try.prog F args w fun e w' => e = .returned r ∧ Below w.heap.size w w') (h : S w) :
    Calls Try.prog F args w fun e w' => e = .returned r ∧ S w' :=
  hc.mono fun _ _ ⟨he, hb⟩ => ⟨he, hk _ _ h hb⟩

theorem same_below {F : Nat} {args : Array Value} {r : Value} {w : World} (h : Calls Try.prog F args w fun e w' => e = .returned r ∧ w' = w) : Calls Try.prog F args w fun e w' => e = .returned r ∧ Below w.heap.size w w' :=
  h.mono fun _ _ hh => ⟨hh.1, by rw [hh.2]; exact Below.refl _ _⟩

set_option maxHeartbeats 2000000 in
theorem pcompare (x y : Bk.Sl) (w : World) : Calls Try.prog 26 #[sv x, sv y] w fun e w' => e = .returned (.int .i64 (cmpS x y)) ∧ Below w.heap.size w w' := by
  have e : cmpS x y = orI (cmpI x.1 y.1) (cmpT x.2 y.2) := rfl
  rw [e]
  have h1 := Lib.hid fun W => same_below (pcmpI x.1 y.1 W)
  have h2 := Lib.hid fun W => same_below (pcmpT x.2 y.2 W)
  generalize cmpI x.1 y.1 = a at *
  generalize cmpT x.2 y.2 = b at *
  clear e
  go_enter Try.func26, Try.ntmps26
  go_wp2_with fail
  have hk := Lib.hid (show ∀ a b : World, (fun w' : World => w'.cell? ⟨w.heap.size, 0, none⟩ = some (iv x.1) ∧ w'.cell? ⟨w.heap.size, 1, none⟩ = some (tx x.2) ∧ w'.cell? ⟨w.heap.size + 1, 0, none⟩ = some (iv y.1) ∧ w'.cell? ⟨w.heap.size + 1, 1, none⟩ = some (tx y.2) ∧ Below w.heap.size w w') a → Below a.heap.size a b → (fun w' : World => w'.cell? ⟨w.heap.size, 0, none⟩ = some (iv x.1) ∧ w'.cell? ⟨w.heap.size, 1, none⟩ = some (tx x.2) ∧ w'.cell? ⟨w.heap.size + 1, 0, none⟩ = some (iv y.1) ∧ w'.cell? ⟨w.heap.size + 1, 1, none⟩ = some (tx y.2) ∧ Below w.heap.size w w') b from fun a b ⟨k0, k1, k2, k3, kb⟩ h => ⟨below_cell h k0, below_cell h k1, below_cell h k2, below_cell h k3, grow_trans kb h⟩)
  have hS : (fun w' : World => w'.cell? ⟨w.heap.size, 0, none⟩ = some (iv x.1) ∧ w'.cell? ⟨w.heap.size, 1, none⟩ = some (tx x.2) ∧ w'.cell? ⟨w.heap.size + 1, 0, none⟩ = some (iv y.1) ∧ w'.cell? ⟨w.heap.size + 1, 1, none⟩ = some (tx y.2) ∧ Below w.heap.size w w') ((w.alloc (.cells #[iv x.1, tx x.2] 24)).alloc (.cells #[iv y.1, tx y.2] 24)) := ⟨by simp, by simp, by simp, by simp, ((Below.refl _ w).alloc (Nat.le_refl _) _).alloc (by simp) _⟩
  have k := hS
  obtain ⟨k0, k1, k2, k3, kb⟩ := k
  go_region_held3 (fun w' : World => w'.cell? ⟨w.heap.size, 0, none⟩ = some (iv x.1) ∧ w'.cell? ⟨w.heap.size, 1, none⟩ = some (tx x.2) ∧ w'.cell? ⟨w.heap.size + 1, 0, none⟩ = some (iv y.1) ∧ w'.cell? ⟨w.heap.size + 1, 1, none⟩ = some (tx y.2) ∧ Below w.heap.size w w')
    (first | assumption | exact hk.out _ _ hS (Below.drew (Below.refl _ _)) | exact hk.out _ _ (by assumption) ((Below.refl _ _).alloc (Nat.le_refl _) _))
    (first
      | (go_at_call 33; refine (keepB (fun w' : World => w'.cell? ⟨w.heap.size, 0, none⟩ = some (iv x.1) ∧ w'.cell? ⟨w.heap.size, 1, none⟩ = some (tx x.2) ∧ w'.cell? ⟨w.heap.size + 1, 0, none⟩ = some (iv y.1) ∧ w'.cell? ⟨w.heap.size + 1, 1, none⟩ = some (tx y.2) ∧ Below w.heap.size w w') hk.out (h1.out _) (by assumption)).mono ?_; rintro e w1 ⟨rfl, kS⟩)
      | (go_at_call 34; refine (keepB (fun w' : World => w'.cell? ⟨w.heap.size, 0, none⟩ = some (iv x.1) ∧ w'.cell? ⟨w.heap.size, 1, none⟩ = some (tx x.2) ∧ w'.cell? ⟨w.heap.size + 1, 0, none⟩ = some (iv y.1) ∧ w'.cell? ⟨w.heap.size + 1, 1, none⟩ = some (tx y.2) ∧ Below w.heap.size w w') hk.out (h2.out _) (by assumption)).mono ?_; rintro e w1 ⟨rfl, kS⟩)
      | (go_at_call 32; refine (keepB (fun w' : World => w'.cell? ⟨w.heap.size, 0, none⟩ = some (iv x.1) ∧ w'.cell? ⟨w.heap.size, 1, none⟩ = some (tx x.2) ∧ w'.cell? ⟨w.heap.size + 1, 0, none⟩ = some (iv y.1) ∧ w'.cell? ⟨w.heap.size + 1, 1, none⟩ = some (tx y.2) ∧ Below w.heap.size w w') hk.out (same_below (por _ a b _ (by simp) (by simp))) (by assumption)).mono ?_; rintro e w1 ⟨rfl, kS⟩))
  all_goals (go_wp2_with fail; go_ret; exact ⟨rfl, (show (fun w' : World => w'.cell? ⟨w.heap.size, 0, none⟩ = some (iv x.1) ∧ w'.cell? ⟨w.heap.size, 1, none⟩ = some (tx x.2) ∧ w'.cell? ⟨w.heap.size + 1, 0, none⟩ = some (iv y.1) ∧ w'.cell? ⟨w.heap.size + 1, 1, none⟩ = some (tx y.2) ∧ Below w.heap.size w w') _ by assumption).2.2.2.2⟩)
end Go.Proofs.Ytpodccgaigkalaa
