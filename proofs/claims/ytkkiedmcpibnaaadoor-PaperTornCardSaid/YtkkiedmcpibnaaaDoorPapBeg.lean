/- Is one row the beginning of another one? -/
import Derived.Test.YtkkiedmcpibnaaaDoorPapEq
import Derived.Test.YtkkiedmcpibnaaaDoorOpenTxs
namespace Pp
theorem mk_fst (p : List (List UInt8)) (i : Nat) (h : i < p.length) : (mk 0 p)[i]'(by rw [mk_len]; exact h) = ((frs (p.take (i + 1))).length, p[i]) := by
  suffices H : ∀ (o : Nat) (p : List (List UInt8)) (i : Nat) (h : i < p.length), (mk o p)[i]'(by rw [mk_len]; exact h) = (o + (frs (p.take (i + 1))).length, p[i]) by simpa using H 0 p i h
  intro o p
  induction p generalizing o with
  | nil => intro i h; simp at h
  | cons r p ih =>
    intro i h
    cases i with
    | zero => simp [mk, frs]
    | succ i =>
      simp only [mk, List.getElem_cons_succ]
      rw [ih _ _ (by simpa using h)]
      simp [frs, Nat.add_assoc]
/-- The ends of the records. -/
def ends (p : List (List UInt8)) : List Int := (mk 0 p).map fun x => (x.1 : Int)
theorem ends_len (p : List (List UInt8)) : (ends p).length = p.length := by simp [ends, mk_len]
theorem ends_at (p : List (List UInt8)) (i : Nat) (h : i < p.length) : (ends p)[i]'(by rw [ends_len]; exact h) = ((frs (p.take (i + 1))).length : Int) := by
  simp [ends, mk_fst p i h]
theorem ends_snoc (p : List (List UInt8)) (r : List UInt8) : ends (p ++ [r]) = ends p ++ [((frs (p ++ [r])).length : Int)] := by simp [ends, mk_snoc]
theorem pre_iff (l : List (List UInt8)) (k i : Nat) (h : i < l.length) : (frs (l.take (i + 1))).length ≤ k ↔ i < pre l k := by
  induction l generalizing k i with
  | nil => simp at h
  | cons r l ih =>
    unfold pre
    cases i with
    | zero =>
      simp only [List.take_succ_cons, List.take_zero, frs, List.append_nil]
      split <;> omega
    | succ i =>
      simp only [List.take_succ_cons, frs, List.length_append]
      have hi : i < l.length := by simpa using h
      have hr := (frm_len r).1
      split
      · rw [show (i + 1 < pre l (k - (frm r).length) + 1) = (i < pre l (k - (frm r).length)) by simp, ← ih _ _ hi]
        omega
      · constructor <;> intro <;> omega
theorem frs_max (l : List (List UInt8)) (h : ∀ r ∈ l, r.length ≤ 65536) : (frs l).length ≤ l.length * 65549 := by
  induction l with
  | nil => simp [frs]
  | cons r l ih =>
    have h1 := ih fun x hx => h x (by simp [hx])
    have h2 := h r (by simp)
    have := (frm_len r).2
    rw [frs, List.length_append, List.length_cons, Nat.add_mul]
    omega
end Pp
namespace Go.Proofs.YtkkiedmcpibnaaaDoor
open Go.RowKit Go.ChangeShapes Go.WideShapes Go.ChangeAt
set_option maxRecDepth 100000
section
variable {H : Type} {enc : TypeId × Value → H} {W : World} {n : Nat} {t : TypeId} {v : Value} {y : DataW H × List MemPlace}
theorem trod_cap (ht : Tryd.prog.underlying t = some (.slice 9)) (h : DataW.trod enc Tryd.prog W 0 (fun _ => true) true n t [v] = some y) : CapOk v := by
  rcases open_strings ht Tryd.underlying9 (by kernel_rfl) h with ⟨hv, rfl⟩ | ⟨a, len, cap, ss, hv, _, hl, _⟩
  · cases hv
    exact ⟨_, _, _, rfl, Nat.le_refl _⟩
  · cases hv
    exact ⟨_, _, _, rfl, hl⟩
end
theorem TxAt.take {w : World} {a : Option Addr} {n c : Nat} {ls : List (List UInt8)} (h : TxAt w (.slice a n c) ls) (k : Nat) (hk : k ≤ n) : TxAt w (.slice a k c) (ls.take k) := by
  rcases h with ⟨a', c', e, rfl⟩ | ⟨b, o, c', e, hc⟩
  · injection e with e1 e2 e3
    subst e1 e2 e3
    obtain rfl : k = 0 := by omega
    exact .inl ⟨_, _, rfl, rfl⟩
  · injection e with e1 e2 e3
    subst e1 e2 e3
    refine .inr ⟨b, o, c, ?_, fun i hi => ?_⟩
    · rw [List.length_take, Nat.min_eq_left hk]
    · rw [List.length_take] at hi
      rw [hc i (by omega), List.getElem_take]

set_option maxHeartbeats 2000000 in
theorem pbegins (va vb : Value) (a b : List (List UInt8)) (w : World) (ha : TxAt w va a) (hb : TxAt w vb b) (hcb : CapOk vb) (la : a.length ≤ 140737488351232) :
    Calls Tryd.prog 25 #[va, vb] w fun e w' => e = .returned (.bool (decide (a.length ≤ b.length) && (a == b.take a.length))) ∧ ∃ n, w' = w.drewN n := by
  obtain ⟨m1, m2, rfl⟩ := ha.len
  obtain ⟨m3, m4, rfl⟩ := hb.len
  obtain ⟨_, _, _, e, hc⟩ := hcb
  injection e with e1 e2 e3
  subst e1 e2 e3
  by_cases hl : a.length ≤ b.length
  · have hs := same_any _ _ a (b.take a.length) w ha (hb.take a.length hl) la
    have t0 : decide (a.length ≤ b.length) = true := decide_eq_true hl
    rw [t0, Bool.true_and]
    generalize (a == b.take a.length) = r at *
    have HS := Lib.hid hs
    have s1 : (0 : Int) ≤ (a.length : Int) := by omega
    have s2 : (a.length : Int) ≤ (m4 : Int) := by omega
    clear hs ha hb
    go_enter Tryd.func25, Tryd.ntmps25
    go_wp2_with fail
    refine HS.out.mono ?_
    rintro e w1 ⟨rfl, q, rfl⟩
    go_wp2
    go_ret
    exact ⟨rfl, _, rfl⟩
  · have t0 : decide (a.length ≤ b.length) = false := decide_eq_false hl
    rw [t0, Bool.false_and]
    clear ha hb
    go_enter Tryd.func25, Tryd.ntmps25
    go_wp2
    go_ret
    exact ⟨rfl, 0, rfl⟩
end Go.Proofs.YtkkiedmcpibnaaaDoor
