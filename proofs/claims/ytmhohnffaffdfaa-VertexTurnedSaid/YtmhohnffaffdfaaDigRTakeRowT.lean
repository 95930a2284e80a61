/- The contract of the document's TakeRow. -/
import Derived.Test.YtmhohnffaffdfaaDigRows
import Derived.Test.YtmhohnffaffdfaaDigTakeText
import Derived.Test.YtmhohnffaffdfaaTyS
namespace Go.Proofs.Ytmhohnffaffdfaa
open Go.RowKit

theorem info_text : (Try.prog.info? 9).map (fun i => (i.zero, i.size, i.bytes)) = some (some (.string ⟨#[]⟩), 1, 16) := by kernel_rfl

/-- What a call that takes a row comes to. -/
def TR (R : Dg.Res) (w : World) (e : Ending) (w' : World) : Prop :=
  ∃ v, e = .returned (.tuple #[v, tx R.2.1, .int .i64 R.2.2]) ∧ TxAt w' v R.1 ∧ TyV w' v ∧ Below w.heap.size w w'

theorem below_own {w : World} {base n : Nat} {t : TypeId} {v : Value} {xs : List Value} (h : w.ownsRow base t 1 v n xs) (_h : base ≤ w.heap.size) (q : Nat) : (w.drewN q).ownsRow base t 1 v n xs := h

set_option maxHeartbeats 2000000 in
theorem rtakeRow_go (l rest : List UInt8) (n : Nat) (many most : Int) (h : Dg.takeNum l = (n, rest, 0)) (ha : Dg.above n many = false) (hl : l.length ≤ 140737488351232) (hs : many ≤ 4294967296 ∨ l.length ≤ 4294967296)
    (m1 : -9223372036854775808 ≤ many) (m2 : many ≤ 9223372036854775807) (o1 : -9223372036854775808 ≤ most) (o2 : most ≤ 9223372036854775807) (w : World) :
    Calls Try.prog 17 #[tx l, .int .i64 many, .int .i64 most] w (TR (Dg.takeTexts n rest most) w) := by
  obtain ⟨i0, hi, hz0, hz1, hz2⟩ := info_parts info_text
  have hn := Dg.takeNum_bound l
  have hr := Dg.takeNum_rest l
  rw [h] at hn hr
  simp only [] at hn hr
  have hc : 0 ≤ many ∧ (n : Int) ≤ many := by simp [Dg.above] at ha; omega
  obtain ⟨hc1, hc2⟩ := hc
  obtain ⟨m, rfl⟩ := Int.eq_ofNat_of_zero_le hc1
  have hc3 : n ≤ m := by omega
  have hd1 : decide ((m : Int) < 0) = false := by simp
  have hd2 : decide (m < n) = false := by simp; omega
  have HS := Lib.hid (show n ≤ 4294967296 ∨ l.length ≤ 4294967296 by omega)
  have HT := Lib.hid h
  clear h ha hs
  go_enter Try.func17, Try.ntmps17
  go_wp2_with fail
  refine (rtakeNum_eq HT.out (by omega) _).mono ?_
  rintro e w1 ⟨rfl, q, rfl⟩
  go_wp2_with fail
  go_loopw [10, 12, 13] (fun r v i wr => ∃ (k : Nat) (s : List UInt8) (acc : List (List UInt8)), i = .int .u64 k ∧ k ≤ n ∧ r = tx s ∧ s.length + acc.length ≤ l.length ∧ acc.length ≤ k ∧ Below w.heap.size w wr ∧ wr.ownsRow w.heap.size 9 1 v acc.length (acc.map tx) ∧ Dg.takeTexts n rest most = Dg.glue acc (Dg.takeTexts (n - k) s most)) (fun _ _ i _ => n - (intOf i).toNat)
  case atStart => exact ⟨0, rest, [], rfl, by omega, rfl, by simpa using hr, by simp, below_drewN (Below.refl _ _) _, ⟨rfl, .inl ⟨rfl, rfl⟩⟩, by rw [Dg.glue_nil]; rfl⟩
  case round =>
    obtain ⟨k, s, acc, rfl, hk, rfl, hlen, hak, hbel, hown, hg⟩ := hrel
    have hA : acc.length ≤ 4294967296 := by rcases HS.out with h | h <;> omega
    by_cases hlt : k < n
    · obtain ⟨t, r, x, ht⟩ : ∃ t r x, Dg.takeText s most = (t, r, x) := ⟨_, _, _, rfl⟩
      obtain ⟨j, hj⟩ : ∃ j, n - k = j + 1 := ⟨n - k - 1, by omega⟩
      have hless := Dg.takeText_less s most
      rw [ht] at hless
      simp only [] at hless
      by_cases h0 : x = 0
      · subst h0
        have hless := hless rfl
        rw [hj, Dg.glue_step acc j s most ht] at hg
        have hj' : n - (k + 1) = j := by omega
        rw [← hj'] at hg
        have HX := Lib.hid ht
        have HG := Lib.hid hg
        have HO := Lib.hid hown
        clear ht hj hg hj' hown
        go_wp2_with fail
        refine (rtakeText_eq HX.out (by omega) o1 o2 _).mono ?_
        rintro e w1 ⟨rfl, q2, rfl⟩
        have hsz := hbel.size
        have hown1 := (below_own HO.out hbel.size q2)
        have HO1 := Lib.hid hown1
        clear hown1
        go_wp2_with (at_builtin; refine wpList_append_own _ rfl _ _ 24 rfl w.heap.size 9 i0 (.string ⟨#[]⟩) 1 16 Try.underlying24 hi hz0 hz1 hz2 rfl (by decide) _ _ _ rfl (HO1.out.alloc _) ⟨wr.heap.size, 0, none⟩ 1 1 [tx t] rfl rfl ?c1 ?c2 ?c3 ?c4 ?c5 ?_)
        case c1 => exact new_cell _ _ rfl _ _
        case c2 => intro u hu; simp at hu; subst hu; rfl
        case c3 => unfold maxLen; omega
        case c4 => omega
        case c5 => simp; omega
        intro v' w2 hown2 hgrow _
        have hown3 : w2.ownsRow w.heap.size 9 1 v' (acc ++ [t]).length ((acc ++ [t]).map tx) := by simpa using hown2
        have hbel2 : Below w.heap.size w w2 := ((below_drewN hbel q2).alloc (by simpa using hsz) _).grown hgrow (by simp; omega) (fun k hk => (HO1.out.lt k hk).1)
        have HO3 := Lib.hid hown3
        clear hown2 hown3 hgrow HO HO1
        go_wp2
        go_roundw
        case rel => exact ⟨k + 1, r, acc ++ [t], by go_num, by omega, rfl, by simp; omega, by simp; omega, hbel2, HO3.out, HG.out⟩
        case measure => simp [intOf]; omega
      · rw [hj, Dg.glue_bad acc j s most ht h0] at hg
        have h0' : ((x : Int) != 0) = true := by rw [bne_iff_ne]; omega
        have HX := Lib.hid ht
        have HG := Lib.hid hg
        clear ht hj hg hown hless h0
        go_wp2_with fail
        refine (rtakeText_eq HX.out (by omega) o1 o2 _).mono ?_
        rintro e w1 ⟨rfl, q2, rfl⟩
        go_wp2_with fail
        go_ret3
        rw [HG.out]
        exact ⟨_, rfl, .inl ⟨_, _, rfl, rfl⟩, TyV.nil _ _ _, below_drewN hbel _⟩
    · obtain rfl : k = n := by omega
      rw [Nat.sub_self, Dg.glue_zero] at hg
      have HG := Lib.hid hg
      have HO := Lib.hid hown
      clear hg hown
      go_wp2
      go_ret3
      rw [HG.out]
      exact ⟨_, rfl, TxAt.own HO.out, TyV.own HO.out, hbel⟩
set_option maxHeartbeats 1000000 in
theorem rtakeRow_bad (l rest : List UInt8) (n x : Nat) (many most : Int) (h : Dg.takeNum l = (n, rest, x)) (hx : x ≠ 0) (hl : l.length ≤ 140737488351232) (w : World) :
    Calls Try.prog 17 #[tx l, .int .i64 many, .int .i64 most] w (TR ([], [], x) w) := by
  have h0' : ((x : Int) != 0) = true := by rw [bne_iff_ne]; omega
  have HT := Lib.hid h
  clear h hx
  go_enter Try.func17, Try.ntmps17
  go_wp2_with fail
  refine (rtakeNum_eq HT.out (by omega) _).mono ?_
  rintro e w1 ⟨rfl, q, rfl⟩
  go_wp2_with fail
  go_ret3
  exact ⟨_, rfl, .inl ⟨_, _, rfl, rfl⟩, TyV.nil _ _ _, grow_draws _ _⟩

set_option maxHeartbeats 1000000 in
theorem rtakeRow_above (l rest : List UInt8) (n : Nat) (many most : Int) (h : Dg.takeNum l = (n, rest, 0)) (ha : Dg.above n many = true) (hl : l.length ≤ 140737488351232)
    (m1 : -9223372036854775808 ≤ many) (m2 : many ≤ 9223372036854775807) (w : World) :
    Calls Try.prog 17 #[tx l, .int .i64 many, .int .i64 most] w (TR ([], [], 4) w) := by
  have HT := Lib.hid h
  clear h
  by_cases hm : many < 0
  · clear ha
    go_enter Try.func17, Try.ntmps17
    go_wp2_with fail
    refine (rtakeNum_eq HT.out (by omega) _).mono ?_
    rintro e w1 ⟨rfl, q, rfl⟩
    go_wp2_with fail
    go_ret3
    exact ⟨_, rfl, .inl ⟨_, _, rfl, rfl⟩, TyV.nil _ _ _, grow_draws _ _⟩
  · obtain ⟨m, rfl⟩ := Int.eq_ofNat_of_zero_le (show 0 ≤ many by omega)
    have hc : m < n := by simp [Dg.above] at ha; omega
    clear ha
    go_enter Try.func17, Try.ntmps17
    go_wp2_with fail
    refine (rtakeNum_eq HT.out (by omega) _).mono ?_
    rintro e w1 ⟨rfl, q, rfl⟩
    go_wp2_with fail
    go_ret3
    exact ⟨_, rfl, .inl ⟨_, _, rfl, rfl⟩, TyV.nil _ _ _, grow_draws _ _⟩

theorem rtakeRow_gen (l : List UInt8) (many most : Int) (hl : l.length ≤ 140737488351232) (hs : many ≤ 4294967296 ∨ l.length ≤ 4294967296)
    (m1 : -9223372036854775808 ≤ many) (m2 : many ≤ 9223372036854775807) (o1 : -9223372036854775808 ≤ most) (o2 : most ≤ 9223372036854775807) (w : World) :
    Calls Try.prog 17 #[tx l, .int .i64 many, .int .i64 most] w (TR (Dg.takeRow l many most) w) := by
  obtain ⟨n, r, x, ht⟩ : ∃ n r x, Dg.takeNum l = (n, r, x) := ⟨_, _, _, rfl⟩
  by_cases hx : x = 0
  · subst hx
    cases ha : Dg.above n many with
    | true =>
      have e : Dg.takeRow l many most = ([], [], 4) := by simp [Dg.takeRow, ht, ha]
      rw [e]
      exact rtakeRow_above l r n many most ht ha hl m1 m2 w
    | false =>
      have e : Dg.takeRow l many most = Dg.takeTexts n r most := by simp [Dg.takeRow, ht, ha]
      rw [e]
      exact rtakeRow_go l r n many most ht ha hl hs m1 m2 o1 o2 w
  · have e : Dg.takeRow l many most = ([], [], x) := by simp [Dg.takeRow, ht, hx]
    rw [e]
    exact rtakeRow_bad l r n x many most ht hx hl w
theorem rtakeRow_any (l : List UInt8) (many most : Int) (hl : l.length ≤ 4294967296)
    (m1 : -9223372036854775808 ≤ many) (m2 : many ≤ 9223372036854775807) (o1 : -9223372036854775808 ≤ most) (o2 : most ≤ 9223372036854775807) (w : World) :
    Calls Try.prog 17 #[tx l, .int .i64 many, .int .i64 most] w (TR (Dg.takeRow l many most) w) := rtakeRow_gen l many most (by omega) (.inr hl) m1 m2 o1 o2 w
end Go.Proofs.Ytmhohnffaffdfaa
