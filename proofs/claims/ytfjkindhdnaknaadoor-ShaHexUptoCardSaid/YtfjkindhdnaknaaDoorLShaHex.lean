/- ShaHex: the walk. -/
import Derived.Test.YtfjkindhdnaknaaDoorShaShown
import Derived.Test.YtfjkindhdnaknaaDoorOpen
namespace Sh
theorem sign_inj : ∀ a, a < 16 → ∀ b, b < 16 → sign a = sign b → a = b := by decide
theorem hex_cons (x : UInt8) (s : List UInt8) : hex (x :: s) = sign (x.toNat / 16) :: sign (x.toNat % 16) :: hex s := rfl
theorem hex_inj : ∀ a b : List UInt8, hex a = hex b → a = b := by
  intro a
  induction a with
  | nil =>
    intro b h
    cases b with
    | nil => rfl
    | cons y b => rw [hex_cons] at h; cases h
  | cons x a ih =>
    intro b h
    cases b with
    | nil => rw [hex_cons] at h; cases h
    | cons y b =>
      rw [hex_cons, hex_cons] at h
      simp only [List.cons.injEq] at h
      obtain ⟨h1, h2, h3⟩ := h
      have hx := x.toNat_lt
      have hy := y.toNat_lt
      have e1 := sign_inj _ (by omega) _ (by omega) h1
      have e2 := sign_inj _ (by omega) _ (by omega) h2
      have e3 : x = y := UInt8.toNat_inj.1 (by omega)
      rw [e3, ih b h3]
theorem hex_beq (a b : List UInt8) : (hex a == hex b) = (a == b) := by
  rw [Bool.eq_iff_iff, beq_iff_eq, beq_iff_eq]
  exact ⟨hex_inj a b, fun h => by rw [h]⟩
end Sh
namespace Go.Proofs.YtfjkindhdnaknaaDoor
open Go.RowKit Go.ChangeShapes Go.WideShapes Go.ChangeAt

set_option maxHeartbeats 1000000 in
theorem shaHex_core (a b : List UInt8) (W : World) (ha : a.length ≤ 70368744177664) (hb : b.length ≤ 70368744177664) (hg : GW W) :
    Calls Tryd.prog 8 #[tx a, tx b] W fun e W' => e = .returned (.bool true) ∧ Below W.heap.size W W' := by
  have hin := Sh.hex_beq a b
  have hln := Sh.hex_len a
  obtain ⟨x, hx⟩ : ∃ x, Sh.hex a = x := ⟨_, rfl⟩
  obtain ⟨y, hy⟩ : ∃ y, Sh.hex b = y := ⟨_, rfl⟩
  rw [hx, hy] at hin
  rw [hx] at hln
  have H1 := Lib.hid (shaShown W hg)
  have H2 := Lib.hid (fun W => phex_eq hx ha W)
  have H3 := Lib.hid (fun W => phex_eq hy hb W)
  have HIN := Lib.hid hin
  have t0 : ((x.length : Int) == 2 * (a.length : Int)) = true := by rw [beq_iff_eq]; omega
  clear hin hx hy hg hln
  cases hab : (a == b) with
  | true =>
    have t1 : (x == y) = true := by rw [HIN.out, hab]
    clear HIN
    go_enter Tryd.func8, Tryd.ntmps8
    go_wp2_with fail
    refine H1.out.mono ?_
    rintro e w1 ⟨rfl, g1⟩
    go_wp2_with fail
    refine (H2.out _).mono ?_
    rintro e w2 ⟨rfl, g2⟩
    go_wp2_with fail
    refine (H3.out _).mono ?_
    rintro e w3 ⟨rfl, g3⟩
    have G := grow_trans (grow_trans g1 g2) g3
    go_wp2
    go_ret
    exact ⟨rfl, G⟩
  | false =>
    have t1 : (x == y) = false := by rw [HIN.out, hab]
    clear HIN
    go_enter Tryd.func8, Tryd.ntmps8
    go_wp2_with fail
    refine H1.out.mono ?_
    rintro e w1 ⟨rfl, g1⟩
    go_wp2_with fail
    refine (H2.out _).mono ?_
    rintro e w2 ⟨rfl, g2⟩
    go_wp2_with fail
    refine (H3.out _).mono ?_
    rintro e w3 ⟨rfl, g3⟩
    have G := grow_trans (grow_trans g1 g2) g3
    go_wp2
    go_ret
    exact ⟨rfl, G⟩

theorem shaHex_walk {H : Type} (enc : TypeId × Value → H) (W : World) (base : Nat) (v0 : Value) (v1 : Value) (d0 : DataW H) (d1 : DataW H) (p0 : List MemPlace) (p1 : List MemPlace)
    (h0 : DataW.Trod enc Tryd.prog W 0 (fun _ => true) true 9 v0 d0 p0) (o0 : Value.okWide Tryd.prog W .any base 9 v0)
    (h1 : DataW.Trod enc Tryd.prog W 0 (fun _ => true) true 9 v1 d1 p1) (o1 : Value.okWide Tryd.prog W .any base 9 v1)
    (_hsz : (DataW.weightsEach Tryd.prog [9, 9] [d0, d1]).all (· ≤ reachBytes) = true) (hk : Rows.uptoSmall H [d0, d1] = true) (hg : GW W) :
    Calls Tryd.prog 8 #[v0, v1] W fun e W' => e = .returned (.bool true) ∧ Below W.heap.size W W' := by
  obtain ⟨a, rfl, rfl, rfl⟩ := open_tx Tryd.underlying9 o0 h0
  obtain ⟨b, rfl, rfl, rfl⟩ := open_tx Tryd.underlying9 o1 h1
  have hb : Rows.uptoBulkAll [DataW.lit (.string a), DataW.lit (.string b)] ≤ 1048576 := of_decide_eq_true hk
  simp only [Rows.uptoBulkAll, Rows.uptoBulk] at hb
  exact shaHex_core a b W (by omega) (by omega) hg
end Go.Proofs.YtfjkindhdnaknaaDoor
