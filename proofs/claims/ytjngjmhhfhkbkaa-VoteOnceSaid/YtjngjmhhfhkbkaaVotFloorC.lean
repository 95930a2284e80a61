/- Package vote as it landed: Floor. -/
import Derived.Test.YtjngjmhhfhkbkaaVotFloorB
namespace Go.Proofs.Ytjngjmhhfhkbkaa
open Go.RowKit

set_option maxHeartbeats 1000000 in
theorem pdelete_nil (low : Int) (B : Nat) (w : World) (h0 : w.cell? ⟨B, 0, none⟩ = some (.int .i64 low)) :
    Calls Try.prog 25 #[.slice none 0 0, .func (.func 26) #[] #[.pointer (some ⟨B, 0, none⟩)]] w fun e w' => e = .returned (.slice none 0 0) ∧ Below w.heap.size w w' := by
  have hidx := fun W hv h0 => pfidx (.slice none 0 0) [] low B W hv (by simp) h0
  have hI : leadI low [] = -1 := rfl
  rw [hI] at hidx
  clear hI
  go_enter Try.func25, Try.ntmps25
  go_wp2_with fail
  refine (hidx _ (.inl ⟨none, rfl, rfl⟩) h0).mono ?_
  rintro e w1 ⟨rfl, h1⟩
  go_wp2
  go_ret
  exact ⟨rfl, h1⟩

set_option maxHeartbeats 1000000 in
theorem pvfloor (v : Value) (l : List Vt.Bl) (low : Int) (w : World) (hv : BalAt w v l) (hl : l.length ≤ 4398046511103) :
    Calls Try.prog 13 #[v, .int .i64 low] w fun e w' => ∃ u, e = .returned u ∧ BalNew w.heap.size w' u (Vt.floor l low) ∧ Below w.heap.size w w' := by
  have g0 : Below w.heap.size w (w.alloc (.cells #[.int .i64 low] 3)) := (Below.refl _ _).alloc (Nat.le_refl _) _
  have q0 : (w.alloc (.cells #[.int .i64 low] 3)).cell? ⟨w.heap.size, 0, none⟩ = some (.int .i64 low) := by simp
  have Q0 := Lib.hid q0
  have GR := Lib.hid g0
  have HV := Lib.hid (hv.below g0)
  have hsz : (w.alloc (.cells #[.int .i64 low] 3)).heap.size = w.heap.size + 1 := by simp
  have HSZ := Lib.hid hsz
  clear hv g0 q0 hsz
  go_enter Try.func13, Try.ntmps13
  go_wp2_with fail
  refine (balClone v l.length (ballots l) _ HV.out.src (by omega)).mono ?_
  rintro e w1 ⟨u, rfl, hown, h1⟩
  have r0 := below_cell h1 Q0.out
  have hb := GR.out.trans (h1.mono (by rw [HSZ.out]; omega))
  have hw1 := h1.size
  rw [HSZ.out] at hw1
  rcases hown.2 with ⟨rfl, hn⟩ | ⟨g, cap, cur, rfl, hg1, hg2, h3, h4, _, _⟩
  · have e0 : l = [] := List.length_eq_zero_iff.1 hn
    subst e0
    have HB := Lib.hid hb
    clear hown hb h1 HV
    go_wp2_with fail
    refine (pdelete_nil low w.heap.size _ r0).mono ?_
    rintro e w2 ⟨rfl, h2⟩
    go_wp2
    go_ret
    exact ⟨_, rfl, ⟨.inl ⟨none, rfl, rfl⟩, fun k hk => by simp [Value.ownBlock] at hk⟩, grow_trans HB.out h2⟩
  · have hbo : BalOwn w1 g l := by
      refine ⟨fun k hk => ?_, fun i _ => hown.frozenAt i⟩
      obtain ⟨s1, s2, s3⟩ := ballots_at l k hk
      have c1 := hown.cells rfl _ _ s1
      have c2 := hown.cells rfl _ _ s2
      have c3 := hown.cells rfl _ _ s3
      have ha : ∀ j, (⟨g, 0, none⟩ : Addr).add j = ⟨g, 0 + j, none⟩ := fun j => by unfold Addr.add; split <;> simp_all
      rw [ha] at c1 c2 c3
      exact ⟨c1, c2, c3⟩
    have hgl : g < w1.heap.size := by
      have := (Array.getElem?_eq_some_iff.1 hg2).1
      exact this
    rw [HSZ.out] at hg1
    have HP := Lib.hid (pdelete (w.heap.size + 1) g cap l low w.heap.size w1 hg1 (by omega) hgl hbo h3 h4 (by omega) r0)
    have HB := Lib.hid hb
    clear hown hb h1 HV hbo hg2
    go_wp2_with fail
    refine HP.out.mono ?_
    rintro e w2 ⟨v, rfl, hv, h2⟩
    go_wp2
    go_ret
    exact ⟨_, rfl, ⟨hv.1, fun k hk => by have := hv.2 k hk; omega⟩, HB.out.trans (h2.mono (by omega))⟩
end Go.Proofs.Ytjngjmhhfhkbkaa
