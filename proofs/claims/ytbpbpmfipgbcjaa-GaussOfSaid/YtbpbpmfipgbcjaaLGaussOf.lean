/- GaussOf: the walk. -/
import Derived.Test.YtbpbpmfipgbcjaaGaussIface
import Derived.Test.YtbpbpmfipgbcjaaGaussField2
import Derived.Test.YtbpbpmfipgbcjaaOpenEl
import Derived.Deep.DeepCutAuto
namespace Go.Proofs.Ytbpbpmfipgbcjaa
open Go.RowKit Go.ChangeShapes Go.WideShapes Go.ChangeAt

attribute [local go_sem] build_el build_el0 build_el1 build_el2 guard_el eqE_self
attribute [local go_sem ↓] eq_elE

set_option maxHeartbeats 4000000 in
theorem gaussOf_0 (v w : Nat) (hv : v < 18446744073709551616) (h1 : 100140049 ≤ v) (W : World) :
    Calls Try.prog 10 #[.int .u64 v, .int .u64 w] W fun e W' => e = .returned (.bool true) ∧ Below W.heap.size W W' := by
  have t1 : decide ((100140049 : Int) ≤ (v : Int)) = true := by simp; omega
  obtain ⟨o, ho'⟩ : ∃ z, Ga.ofN v = z := ⟨_, rfl⟩
  have HK := Lib.hid (show Ga.ok o = true by rw [← ho']; exact Ga.ok_ofN v)
  have HO := Lib.hid ho'
  clear ho' h1
  go_enter Try.func10, Try.ntmps10
  go_wp2_with fail
  refine (gaShown_any _).mono ?_
  rintro e w1 ⟨rfl, h1⟩
  have kb := h1
  clear h1
  have hk1 : ∀ a b : World, (fun w' : World => Below W.heap.size W w') a → Below a.heap.size a b → (fun w' : World => Below W.heap.size W w') b := fun a b kb h => grow_trans kb h
  go_wp2_with fail
  refine (keepS (fun w' : World => Below W.heap.size W w') hk1 (s_of HO.out hv _) kb).mono ?_
  clear kb
  rintro e w2 ⟨rfl, kb⟩
  go_wp2_with fail
  refine (keepS (fun w' : World => Below W.heap.size W w') hk1 (s_may HK.out _) kb).mono ?_
  clear kb
  rintro e w3 ⟨rfl, kb⟩
  go_wp2_with fail
  go_ret
  exact ⟨rfl, kb⟩
set_option maxHeartbeats 4000000 in
theorem gaussOf_1 (v w : Nat) (hv : v < 18446744073709551616) (h1 : v < 100140049) (h2 : 100140049 ≤ w) (W : World) :
    Calls Try.prog 10 #[.int .u64 v, .int .u64 w] W fun e W' => e = .returned (.bool true) ∧ Below W.heap.size W W' := by
  have t1 : decide ((100140049 : Int) ≤ (v : Int)) = false := by simp; omega
  have t2 : decide ((100140049 : Int) ≤ (w : Int)) = true := by simp; omega
  obtain ⟨o, ho'⟩ : ∃ z, Ga.ofN v = z := ⟨_, rfl⟩
  have HK := Lib.hid (show Ga.ok o = true by rw [← ho']; exact Ga.ok_ofN v)
  have HO := Lib.hid ho'
  clear ho' h1 h2
  go_enter Try.func10, Try.ntmps10
  go_wp2_with fail
  refine (gaShown_any _).mono ?_
  rintro e w1 ⟨rfl, h1⟩
  have kb := h1
  clear h1
  have hk1 : ∀ a b : World, (fun w' : World => Below W.heap.size W w') a → Below a.heap.size a b → (fun w' : World => Below W.heap.size W w') b := fun a b kb h => grow_trans kb h
  go_wp2_with fail
  refine (keepS (fun w' : World => Below W.heap.size W w') hk1 (s_of HO.out hv _) kb).mono ?_
  clear kb
  rintro e w2 ⟨rfl, kb⟩
  go_wp2_with fail
  refine (keepS (fun w' : World => Below W.heap.size W w') hk1 (s_may HK.out _) kb).mono ?_
  clear kb
  rintro e w3 ⟨rfl, kb⟩
  go_wp2_with fail
  go_ret
  exact ⟨rfl, kb⟩
set_option maxHeartbeats 4000000 in
theorem gaussOf_2 (v : Nat) (hv : v < 18446744073709551616) (h1 : v < 100140049) (W : World) :
    Calls Try.prog 10 #[.int .u64 v, .int .u64 v] W fun e W' => e = .returned (.bool true) ∧ Below W.heap.size W W' := by
  have t1 : decide ((100140049 : Int) ≤ (v : Int)) = false := by simp; omega
  obtain ⟨o, ho'⟩ : ∃ z, Ga.ofN v = z := ⟨_, rfl⟩
  have HK := Lib.hid (show Ga.ok o = true by rw [← ho']; exact Ga.ok_ofN v)
  have HO := Lib.hid ho'
  clear ho' h1
  go_enter Try.func10, Try.ntmps10
  go_wp2_with fail
  refine (gaShown_any _).mono ?_
  rintro e w1 ⟨rfl, h1⟩
  have kb := h1
  clear h1
  have hk1 : ∀ a b : World, (fun w' : World => Below W.heap.size W w') a → Below a.heap.size a b → (fun w' : World => Below W.heap.size W w') b := fun a b kb h => grow_trans kb h
  go_wp2_with fail
  refine (keepS (fun w' : World => Below W.heap.size W w') hk1 (s_of HO.out hv _) kb).mono ?_
  clear kb
  rintro e w2 ⟨rfl, kb⟩
  go_wp2_with fail
  refine (keepS (fun w' : World => Below W.heap.size W w') hk1 (s_may HK.out _) kb).mono ?_
  clear kb
  rintro e w3 ⟨rfl, kb⟩
  go_wp2_with fail
  refine (keepS (fun w' : World => Below W.heap.size W w') hk1 (s_of HO.out hv _) kb).mono ?_
  clear kb
  rintro e w4 ⟨rfl, kb⟩
  go_wp2_with fail
  refine (keepS (fun w' : World => Below W.heap.size W w') hk1 (s_of HO.out hv _) kb).mono ?_
  clear kb
  rintro e w5 ⟨rfl, kb⟩
  go_wp2_with fail
  go_ret
  exact ⟨rfl, kb⟩
set_option maxHeartbeats 4000000 in
theorem gaussOf_3 (v w : Nat) (hv : v < 18446744073709551616) (hw : w < 18446744073709551616) (h1 : v < 100140049) (h2 : w < 100140049) (hne : v ≠ w) (W : World) :
    Calls Try.prog 10 #[.int .u64 v, .int .u64 w] W fun e W' => e = .returned (.bool true) ∧ Below W.heap.size W W' := by
  have t1 : decide ((100140049 : Int) ≤ (v : Int)) = false := by simp; omega
  have t2 : decide ((100140049 : Int) ≤ (w : Int)) = false := by simp; omega
  have t3 : ((v : Int) == (w : Int)) = false := by rw [beq_eq_false_iff_ne]; omega
  obtain ⟨o, ho'⟩ : ∃ z, Ga.ofN v = z := ⟨_, rfl⟩
  have HK := Lib.hid (show Ga.ok o = true by rw [← ho']; exact Ga.ok_ofN v)
  have HO := Lib.hid ho'
  obtain ⟨p, hp'⟩ : ∃ z, Ga.ofN w = z := ⟨_, rfl⟩
  have e1 : eqE o.1 o.2 p.1 p.2 = false := eqE_ne (fun e => hne (Ga.ofN_inj h1 h2 (by rw [ho', hp', e])))
  have HQ := Lib.hid hp'
  clear ho' hp' h1 h2 hne
  go_enter Try.func10, Try.ntmps10
  go_wp2_with fail
  refine (gaShown_any _).mono ?_
  rintro e w1 ⟨rfl, h1⟩
  have kb := h1
  clear h1
  have hk1 : ∀ a b : World, (fun w' : World => Below W.heap.size W w') a → Below a.heap.size a b → (fun w' : World => Below W.heap.size W w') b := fun a b kb h => grow_trans kb h
  go_wp2_with fail
  refine (keepS (fun w' : World => Below W.heap.size W w') hk1 (s_of HO.out hv _) kb).mono ?_
  clear kb
  rintro e w2 ⟨rfl, kb⟩
  go_wp2_with fail
  refine (keepS (fun w' : World => Below W.heap.size W w') hk1 (s_may HK.out _) kb).mono ?_
  clear kb
  rintro e w3 ⟨rfl, kb⟩
  go_wp2_with fail
  refine (keepS (fun w' : World => Below W.heap.size W w') hk1 (s_of HO.out hv _) kb).mono ?_
  clear kb
  rintro e w4 ⟨rfl, kb⟩
  go_wp2_with fail
  refine (keepS (fun w' : World => Below W.heap.size W w') hk1 (s_of HQ.out hw _) kb).mono ?_
  clear kb
  rintro e w5 ⟨rfl, kb⟩
  go_wp2_with fail
  go_ret
  exact ⟨rfl, kb⟩
theorem gaussOf_core (v w : Nat) (hv : v < 18446744073709551616) (hw : w < 18446744073709551616) (W : World) :
    Calls Try.prog 10 #[.int .u64 v, .int .u64 w] W fun e W' => e = .returned (.bool true) ∧ Below W.heap.size W W' := by
  by_cases h1 : 100140049 ≤ v
  · exact gaussOf_0 v w hv h1 W
  · by_cases h2 : 100140049 ≤ w
    · exact gaussOf_1 v w hv (by omega) h2 W
    · by_cases h3 : v = w
      · subst h3; exact gaussOf_2 v hv (by omega) W
      · exact gaussOf_3 v w hv hw (by omega) (by omega) h3 W

theorem gaussOf_walk {H : Type} (enc : TypeId × Value → H) (W : World) (base : Nat) (v0 : Value) (v1 : Value) (d0 : DataW H) (d1 : DataW H) (p0 : List MemPlace) (p1 : List MemPlace)
    (h0 : DataW.Trod enc Try.prog W 0 (fun _ => true) true 29 v0 d0 p0) (o0 : Value.okWide Try.prog W .any base 29 v0)
    (h1 : DataW.Trod enc Try.prog W 0 (fun _ => true) true 29 v1 d1 p1) (o1 : Value.okWide Try.prog W .any base 29 v1)
    (_hsz : (DataW.weightsEach Try.prog [29, 29] [d0, d1]).all (· ≤ reachBytes) = true) :
    Calls Try.prog 10 #[v0, v1] W fun e W' => e = .returned (.bool true) ∧ Below W.heap.size W W' := by
  obtain ⟨n0, u0, rfl, rfl, rfl⟩ := open_u64 Try.underlying29 o0 h0
  obtain ⟨n1, u1, rfl, rfl, rfl⟩ := open_u64 Try.underlying29 o1 h1
  exact gaussOf_core n0 n1 u0 u1 W
end Go.Proofs.Ytbpbpmfipgbcjaa
