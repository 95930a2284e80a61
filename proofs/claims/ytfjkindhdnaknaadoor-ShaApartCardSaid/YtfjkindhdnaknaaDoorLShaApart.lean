/- ShaApart: the walk. -/
import Derived.Test.YtfjkindhdnaknaaDoorShaShown
import Derived.Test.YtfjkindhdnaknaaDoorOpen
namespace Sh
theorem mod_pow_eq (n m : Nat) : ∀ j, (∀ i, i < j → n / 256 ^ i % 256 = m / 256 ^ i % 256) → n % 256 ^ j = m % 256 ^ j := by
  intro j
  induction j with
  | zero => intro _; simp [Nat.mod_one]
  | succ j ih =>
    intro h
    rw [Nat.mod_pow_succ, Nat.mod_pow_succ, ih (fun i hi => h i (by omega)), h j (by omega)]
theorem be8_inj (n m : Nat) (hn : n < 18446744073709551616) (hm : m < 18446744073709551616) (h : be8 n = be8 m) : n = m := by
  have key : ∀ i, i < 8 → n / 256 ^ i % 256 = m / 256 ^ i % 256 := by
    intro i hi
    have h2 : (be8 n)[7 - i]? = (be8 m)[7 - i]? := by rw [h]
    simp only [be8, List.getElem?_map, List.getElem?_range (show 7 - i < 8 by omega), Option.map_some, Option.some.injEq] at h2
    have h3 := congrArg UInt8.toNat h2
    rw [UInt8.toNat_ofNat', UInt8.toNat_ofNat', show 7 - (7 - i) = i by omega] at h3
    have e : (2 : Nat) ^ (8 * i) = 256 ^ i := by rw [Nat.pow_mul]
    rw [e] at h3
    omega
  have := mod_pow_eq n m 8 key
  rw [Nat.mod_eq_of_lt (show n < 256 ^ 8 from hn), Nat.mod_eq_of_lt (show m < 256 ^ 8 from hm)] at this
  exact this
theorem pad_inj (a b : List UInt8) (ha : a.length ≤ 140737488351232) (hb : b.length ≤ 140737488351232) : (pad a == pad b) = (a == b) := by
  rw [Bool.eq_iff_iff, beq_iff_eq, beq_iff_eq]
  refine ⟨fun h => ?_, fun h => by rw [h]⟩
  have hl : (pad a).length = (pad b).length := by rw [h]
  have ea : (pad a).drop ((pad a).length - 8) = be8 (8 * a.length) := by
    have e : pad a = (a ++ 128 :: List.replicate (zeros a.length) 0) ++ be8 (8 * a.length) := by simp [pad]
    have e2 : (pad a).length - 8 = (a ++ 128 :: List.replicate (zeros a.length) 0).length := by rw [e, List.length_append, be8_len]; omega
    rw [e2, e, List.drop_left]
  have eb : (pad b).drop ((pad b).length - 8) = be8 (8 * b.length) := by
    have e : pad b = (b ++ 128 :: List.replicate (zeros b.length) 0) ++ be8 (8 * b.length) := by simp [pad]
    have e2 : (pad b).length - 8 = (b ++ 128 :: List.replicate (zeros b.length) 0).length := by rw [e, List.length_append, be8_len]; omega
    rw [e2, e, List.drop_left]
  have h8 : be8 (8 * a.length) = be8 (8 * b.length) := by rw [← ea, ← eb, h]
  have hlen := be8_inj _ _ (by omega) (by omega) h8
  have ha2 : (pad a).take a.length = a := by rw [pad, List.take_left]
  have hb2 : (pad b).take b.length = b := by rw [pad, List.take_left]
  rw [← ha2, ← hb2, h, show a.length = b.length by omega]
end Sh
namespace Go.Proofs.YtfjkindhdnaknaaDoor
open Go.RowKit Go.ChangeShapes Go.WideShapes Go.ChangeAt

set_option maxHeartbeats 1000000 in
theorem shaApart_core (a b : List UInt8) (W : World) (ha : a.length ≤ 140737488351232) (hb : b.length ≤ 140737488351232) (hg : GW W) :
    Calls Tryd.prog 9 #[tx a, tx b] W fun e W' => e = .returned (.bool true) ∧ Below W.heap.size W W' := by
  have hin := Sh.pad_inj a b ha hb
  obtain ⟨x, hx⟩ : ∃ x, Sh.pad a = x := ⟨_, rfl⟩
  obtain ⟨y, hy⟩ : ∃ y, Sh.pad b = y := ⟨_, rfl⟩
  rw [hx, hy] at hin
  have H1 := Lib.hid (shaShown W hg)
  have H2 := Lib.hid (fun W => ppad_eq hx ha W)
  have H3 := Lib.hid (fun W => ppad_eq hy hb W)
  have HIN := Lib.hid hin
  clear hin hx hy hg
  cases hab : (a == b) with
  | true =>
    have t1 : (x == y) = true := by rw [HIN.out, hab]
    clear HIN
    go_enter Tryd.func9, Tryd.ntmps9
    go_wp2_with fail
    refine H1.out.mono ?_
    rintro e w1 ⟨rfl, g1⟩
    go_wp2_with fail
    refine (H2.out _).mono ?_
    rintro e w2 ⟨rfl, g2⟩
    go_wp2_with fail
    refine (H3.out _).mono ?_
    rintro e w3 ⟨rfl, g3⟩
    have G := grow_trans (grow_trans g1 g2) g3
    go_wp2
    go_ret
    exact ⟨rfl, G⟩
  | false =>
    have t1 : (x == y) = false := by rw [HIN.out, hab]
    clear HIN
    go_enter Tryd.func9, Tryd.ntmps9
    go_wp2_with fail
    refine H1.out.mono ?_
    rintro e w1 ⟨rfl, g1⟩
    go_wp2_with fail
    refine (H2.out _).mono ?_
    rintro e w2 ⟨rfl, g2⟩
    go_wp2_with fail
    refine (H3.out _).mono ?_
    rintro e w3 ⟨rfl, g3⟩
    have G := grow_trans (grow_trans g1 g2) g3
    go_wp2
    go_ret
    exact ⟨rfl, G⟩

theorem shaApart_walk {H : Type} (enc : TypeId × Value → H) (W : World) (base : Nat) (v0 : Value) (v1 : Value) (d0 : DataW H) (d1 : DataW H) (p0 : List MemPlace) (p1 : List MemPlace)
    (h0 : DataW.Trod enc Tryd.prog W 0 (fun _ => true) true 9 v0 d0 p0) (o0 : Value.okWide Tryd.prog W .any base 9 v0)
    (h1 : DataW.Trod enc Tryd.prog W 0 (fun _ => true) true 9 v1 d1 p1) (o1 : Value.okWide Tryd.prog W .any base 9 v1)
    (hsz : (DataW.weightsEach Tryd.prog [9, 9] [d0, d1]).all (· ≤ reachBytes) = true) (hg : GW W) :
    Calls Tryd.prog 9 #[v0, v1] W fun e W' => e = .returned (.bool true) ∧ Below W.heap.size W W' := by
  obtain ⟨a, rfl, rfl, rfl⟩ := open_tx Tryd.underlying9 o0 h0
  obtain ⟨b, rfl, rfl, rfl⟩ := open_tx Tryd.underlying9 o1 h1
  exact shaApart_core a b W (sized_string hsz (j := 0) rfl rfl) (sized_string hsz (j := 1) rfl rfl) hg
end Go.Proofs.YtfjkindhdnaknaaDoor
