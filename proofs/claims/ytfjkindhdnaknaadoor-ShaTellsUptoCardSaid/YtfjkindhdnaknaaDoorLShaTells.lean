/- ShaTells: the walk. -/
import Derived.Test.YtfjkindhdnaknaaDoorShaShown
import Derived.Test.YtfjkindhdnaknaaDoorOpen
namespace Sh
theorem hex_hi (s : List UInt8) : ∀ k (hk : k < s.length), (hex s)[2 * k]? = some (sign (s[k].toNat / 16)) := by
  induction s with
  | nil => intro k hk; exact absurd hk (by simp)
  | cons x s ih =>
    intro k hk
    cases k with
    | zero => rfl
    | succ k => exact ih k (by simpa using hk)
theorem hex_lo (s : List UInt8) : ∀ k (hk : k < s.length), (hex s)[2 * k + 1]? = some (sign (s[k].toNat % 16)) := by
  induction s with
  | nil => intro k hk; exact absurd hk (by simp)
  | cons x s ih =>
    intro k hk
    cases k with
    | zero => rfl
    | succ k => exact ih k (by simpa using hk)
theorem sign_cases : ∀ n, n < 16 → (n < 10 ∧ (sign n).toNat = 48 + n) ∨ (10 ≤ n ∧ (sign n).toNat = 87 + n) := by decide
end Sh
namespace Go.Proofs.YtfjkindhdnaknaaDoor
open Go.RowKit Go.ChangeShapes Go.WideShapes Go.ChangeAt
attribute [local go_sem] byte_at

set_option maxHeartbeats 4000000 in
theorem shaTells_core (s : List UInt8) (W : World) (hs : s.length ≤ 70368744177664) (hg : GW W) :
    Calls Tryd.prog 10 #[tx s] W fun e W' => e = .returned (.bool true) ∧ Below W.heap.size W W' := by
  have hln := Sh.hex_len s
  have hhi := Sh.hex_hi s
  have hlo := Sh.hex_lo s
  obtain ⟨x, hx⟩ : ∃ x, Sh.hex s = x := ⟨_, rfl⟩
  rw [hx] at hln hhi hlo
  have H1 := Lib.hid (shaShown W hg)
  have H2 := Lib.hid (fun W => phex_eq hx hs W)
  have t0 : ((x.length : Int) == 2 * (s.length : Int)) = true := by rw [beq_iff_eq]; omega
  have HLN := Lib.hid hln
  have HHI := Lib.hid hhi
  have HLO := Lib.hid hlo
  clear hx hg hln hhi hlo
  go_enter Tryd.func10, Tryd.ntmps10
  go_wp2_with fail
  refine H1.out.mono ?_
  rintro e w1 ⟨rfl, g1⟩
  go_wp2_with fail
  refine (H2.out _).mono ?_
  rintro e w2 ⟨rfl, g2⟩
  have G := grow_trans g1 g2
  clear g1 g2
  go_wp2_with fail
  simp only [show ((x.length : Int) != 2 * (s.length : Int)) = false by rw [bne_eq_false_iff_eq]; exact beq_iff_eq.1 t0]
  clear t0
  go_loopw [5] (fun i wr => ∃ k : Nat, i = .int .i64 k ∧ k ≤ s.length ∧ Below W.heap.size W wr) (fun i _ => s.length - (intOf i).toNat)
  case atStart => exact ⟨0, rfl, by omega, G⟩
  case round =>
    obtain ⟨k, rfl, hk, hbel⟩ := hrel
    have HB := Lib.hid hbel
    clear hbel
    by_cases hlt : k < s.length
    · have hyl := s[k].toNat_lt
      have q1 := HHI.out k hlt
      have q2 := HLO.out k hlt
      have l1 : 2 * k < x.length := by rw [HLN.out]; omega
      have l2 : 2 * k + 1 < x.length := by rw [HLN.out]; omega
      obtain ⟨m, hm⟩ : ∃ m, 2 * k = m := ⟨_, rfl⟩
      have em := Lib.hid (show 2 * (k : Int) = (m : Int) by omega)
      have hml : m ≤ 140737488355328 := by omega
      rw [hm] at q1 q2 l1 l2
      clear hm
      rw [List.getElem?_eq_getElem l1, Option.some.injEq] at q1
      rw [List.getElem?_eq_getElem l2, Option.some.injEq] at q2
      have r1 := Sh.sign_cases (s[k].toNat / 16) (by omega)
      have r2 := Sh.sign_cases (s[k].toNat % 16) (by omega)
      rw [← q1] at r1
      rw [← q2] at r2
      clear q1 q2
      have l3 : (0:Int) ≤ (m : Int) := by omega
      have hsm : (s[k].toNat : Int) = 16 * ((s[k].toNat / 16 : Nat) : Int) + ((s[k].toNat % 16 : Nat) : Int) := by omega
      have HW : wrap64 (s[k].toNat : Int) = (s[k].toNat : Int) := w64_byte _
      have hn1 : s[k].toNat / 16 < 16 := by omega
      have hn2 : s[k].toNat % 16 < 16 := by omega
      obtain ⟨n1, e1⟩ : ∃ n1, s[k].toNat / 16 = n1 := ⟨_, rfl⟩
      obtain ⟨n2, e2⟩ : ∃ n2, s[k].toNat % 16 = n2 := ⟨_, rfl⟩
      rw [e1] at r1 hsm hn1
      rw [e2] at r2 hsm hn2
      clear e1 e2 hyl
      have em' := em.out
      go_wp2_with fail
      refine wp_loop_rounds 3 ?_
      rw [rounds_succ]
      rcases r1 with ⟨a1, b1⟩ | ⟨a1, b1⟩ <;> rcases r2 with ⟨a2, b2⟩ | ⟨a2, b2⟩
      · have t9 : (16 * (48 + (n1 : Int) - 48) + (48 + (n2 : Int) - 48) != wrap64 (s[k].toNat : Int)) = false := by rw [HW, hsm, bne_eq_false_iff_eq]; omega
        clear hsm HW
        go_wp2_with fail
        rw [rounds_succ]
        go_wp2_with fail
        rw [rounds_succ]
        go_wp2_with fail
        go_roundw
        case rel => exact ⟨k + 1, by go_num, hlt, HB.out⟩
        case measure => simp [intOf]; omega
      · have t9 : (16 * (48 + (n1 : Int) - 48) + (87 + (n2 : Int) - 97) + 10 != wrap64 (s[k].toNat : Int)) = false := by rw [HW, hsm, bne_eq_false_iff_eq]; omega
        clear hsm HW
        go_wp2_with fail
        rw [rounds_succ]
        go_wp2_with fail
        rw [rounds_succ]
        go_wp2_with fail
        go_roundw
        case rel => exact ⟨k + 1, by go_num, hlt, HB.out⟩
        case measure => simp [intOf]; omega
      · have t9 : (16 * (87 + (n1 : Int) - 97 + 10) + (48 + (n2 : Int) - 48) != wrap64 (s[k].toNat : Int)) = false := by rw [HW, hsm, bne_eq_false_iff_eq]; omega
        clear hsm HW
        go_wp2_with fail
        rw [rounds_succ]
        go_wp2_with fail
        rw [rounds_succ]
        go_wp2_with fail
        go_roundw
        case rel => exact ⟨k + 1, by go_num, hlt, HB.out⟩
        case measure => simp [intOf]; omega
      · have t9 : (16 * (87 + (n1 : Int) - 97 + 10) + (87 + (n2 : Int) - 97) + 10 != wrap64 (s[k].toNat : Int)) = false := by rw [HW, hsm, bne_eq_false_iff_eq]; omega
        clear hsm HW
        go_wp2_with fail
        rw [rounds_succ]
        go_wp2_with fail
        rw [rounds_succ]
        go_wp2_with fail
        go_roundw
        case rel => exact ⟨k + 1, by go_num, hlt, HB.out⟩
        case measure => simp [intOf]; omega
    · obtain rfl : k = s.length := by omega
      go_wp2
      go_ret
      exact ⟨rfl, HB.out⟩
theorem shaTells_walk {H : Type} (enc : TypeId × Value → H) (W : World) (base : Nat) (v0 : Value) (d0 : DataW H) (p0 : List MemPlace)
    (h0 : DataW.Trod enc Tryd.prog W 0 (fun _ => true) true 9 v0 d0 p0) (o0 : Value.okWide Tryd.prog W .any base 9 v0)
    (_hsz : (DataW.weightsEach Tryd.prog [9] [d0]).all (· ≤ reachBytes) = true) (hk : Rows.uptoSmall H [d0] = true) (hg : GW W) :
    Calls Tryd.prog 10 #[v0] W fun e W' => e = .returned (.bool true) ∧ Below W.heap.size W W' := by
  obtain ⟨a, rfl, rfl, rfl⟩ := open_tx Tryd.underlying9 o0 h0
  have hb : Rows.uptoBulkAll [DataW.lit (.string a)] ≤ 1048576 := of_decide_eq_true hk
  simp only [Rows.uptoBulkAll, Rows.uptoBulk] at hb
  exact shaTells_core a W (by omega) hg
end Go.Proofs.YtfjkindhdnaknaaDoor
