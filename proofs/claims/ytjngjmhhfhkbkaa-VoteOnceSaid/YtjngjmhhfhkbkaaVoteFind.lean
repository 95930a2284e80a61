/- What was voted for, in both packages. -/
import Derived.Test.YtjngjmhhfhkbkaaVoteRef
namespace Vt
/-- What Find hands back. -/
def found (l : List Bl) (a r : Int) : List UInt8 × Bool := ((find l a r).getD [], (find l a r).isSome)
theorem find_hit (l : List Bl) (a r : Int) (k : Nat) (h : k < l.length) (hn : ∀ j (hj : j < l.length), j < k → ¬ (l[j].1 = a ∧ l[j].2.1 = r)) (hk : l[k].1 = a ∧ l[k].2.1 = r) : find l a r = some l[k].2.2 := by
  rw [find, Option.map_eq_some_iff]
  refine ⟨l[k], ?_, rfl⟩
  rw [List.find?_eq_some_iff_getElem]
  refine ⟨by simp [hk.1, hk.2], k, h, rfl, fun j hj => ?_⟩
  have := hn j (by omega) hj
  simp only [Bool.not_eq_true', Bool.and_eq_false_iff, decide_eq_false_iff_not]
  exact Decidable.not_and_iff_not_or_not.1 this
theorem find_miss (l : List Bl) (a r : Int) (hn : ∀ j (hj : j < l.length), ¬ (l[j].1 = a ∧ l[j].2.1 = r)) : find l a r = none := by
  rw [find, Option.map_eq_none_iff, List.find?_eq_none]
  intro b hb
  obtain ⟨j, hj, rfl⟩ := List.getElem_of_mem hb
  have := hn j hj
  simpa using this
end Vt
namespace Go.Proofs.Ytjngjmhhfhkbkaa
open Go.RowKit

set_option maxHeartbeats 1000000 in
theorem rvfind (v : Value) (l : List Vt.Bl) (a r : Int) (w : World) (hs : FlatAt w v 3 (ballots l)) (hl : l.length ≤ 140737488351232) :
    Calls Try.prog 16 #[v, .int .i64 a, .int .i64 r] w fun e w' => e = .returned (.tuple #[tx (Vt.found l a r).1, .bool (Vt.found l a r).2]) ∧ ∃ q, w' = w.drewN q := by
  rcases flat_ballots hs (Below.refl _ _) with ⟨rfl, ad, cap, rfl⟩ | ⟨h0, b, off, cap, rfl, hc⟩
  · go_enter Try.func16, Try.ntmps16
    go_wp2_with fail
    refine wp_loop_rounds 1 ?_
    rw [rounds_succ]
    go_wp2
    go_ret2
    exact ⟨rfl, 0, rfl⟩
  · have HC := Lib.hid hc
    clear hc hs
    go_enter Try.func16, Try.ntmps16
    go_wp2_with fail
    go_loopw [8] (fun i wr => ∃ k : Nat, i = .int .i64 k ∧ k ≤ l.length ∧ (∀ j (hj : j < l.length), j < k → ¬ (l[j].1 = a ∧ l[j].2.1 = r)) ∧ ∃ q, wr = w.drewN q) (fun i _ => l.length - (intOf i).toNat)
    case atStart => exact ⟨0, rfl, by omega, fun _ _ h => absurd h (by omega), 0, rfl⟩
    case round =>
      obtain ⟨k, rfl, hk, hn, q, hq⟩ := hrel
      have HN := Lib.hid hn
      clear hn
      by_cases hlt : k < l.length
      · obtain ⟨c1, c2, c3⟩ := HC.out k hlt
        have d1 : wr.cell? ⟨b, off + k * 3, none⟩ = some (iv l[k].1) := by rw [hq]; exact c1
        have d2 : wr.cell? ⟨b, off + k * 3 + 1, none⟩ = some (iv l[k].2.1) := by rw [hq]; exact c2
        have d3 : wr.cell? ⟨b, off + k * 3 + 2, none⟩ = some (tx l[k].2.2) := by rw [hq]; exact c3
        clear c1 c2 c3
        have HQ := Lib.hid hq
        clear hq
        have next : ¬ (l[k].1 = a ∧ l[k].2.1 = r) → ∀ j (hj : j < l.length), j < k + 1 → ¬ (l[j].1 = a ∧ l[j].2.1 = r) := by
          intro hne j hj hjk
          by_cases e : j = k
          · subst e; exact hne
          · exact HN.out j hj (by omega)
        have hit : l[k].1 = a ∧ l[k].2.1 = r → Vt.found l a r = (l[k].2.2, true) := by
          intro he
          rw [Vt.found, Vt.find_hit l a r k hlt HN.out he]
          rfl
        have HX := Lib.hid next
        have HH := Lib.hid hit
        clear next hit
        obtain ⟨y, hy⟩ : ∃ y, l[k] = y := ⟨_, rfl⟩
        rw [hy] at d1 d2 d3 HX HH
        clear hy
        obtain ⟨x, z, t⟩ := y
        simp only [iv] at d1 d2 d3 HX HH
        by_cases hx : x = a
        · by_cases hz : z = r
          · have HF := Lib.hid (HH.out ⟨hx, hz⟩)
            subst hx hz
            clear HX HH
            go_wp2
            go_ret2
            exact ⟨by rw [HF.out]; rfl, q, HQ.out⟩
          · have HF := Lib.hid (HX.out fun h => hz h.2)
            have t2 : (z == r) = false := by rw [beq_eq_false_iff_ne]; exact hz
            subst hx
            clear HX HH hz
            go_wp2
            go_roundw
            case rel => exact ⟨k + 1, by go_num, hlt, HF.out, q, HQ.out⟩
            case measure => simp [intOf]; omega
        · have HF := Lib.hid (HX.out fun h => hx h.1)
          have t1 : (x == a) = false := by rw [beq_eq_false_iff_ne]; exact hx
          clear HX HH hx
          go_wp2
          go_roundw
          case rel => exact ⟨k + 1, by go_num, hlt, HF.out, q, HQ.out⟩
          case measure => simp [intOf]; omega
      · obtain rfl : k = l.length := by omega
        have HF := Lib.hid (show Vt.found l a r = ([], false) by rw [Vt.found, Vt.find_miss l a r fun j hj => HN.out j hj hj]; rfl)
        have HQ := Lib.hid hq
        clear hq
        go_wp2
        go_ret2
        exact ⟨by rw [HF.out]; rfl, q, HQ.out⟩
end Go.Proofs.Ytjngjmhhfhkbkaa
