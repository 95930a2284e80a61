/- The contracts of TakeRow, its closure and its generic loop. -/
import Derived.Test.YtmhohnffaffdfaaDigRTakeRowT
namespace Go.Proofs.Ytmhohnffaffdfaa
open Go.RowKit

set_option maxHeartbeats 1000000 in
theorem takeText_lit (l : List UInt8) (most : Int) {t r : List UInt8} {x : Nat} (h : Dg.takeText l most = (t, r, x)) (hl : l.length ≤ 140737488351232) (h1 : -9223372036854775808 ≤ most) (h2 : most ≤ 9223372036854775807) (a : Addr) (w : World)
    (hc : w.cell? a = some (.int .i64 most)) :
    Calls Try.prog 55 #[tx l, .pointer (some a)] w fun e w' => e = .returned (.tuple #[tx t, tx r, .int .i64 x]) ∧ ∃ k, w' = w.drewN k := by
  have HT := Lib.hid h
  clear h
  go_enter Try.func55, Try.ntmps55
  go_wp2_with fail
  refine (takeText_eq HT.out hl h1 h2 _).mono ?_
  rintro e w1 ⟨rfl, k, rfl⟩
  go_wp2_with fail
  go_ret3
  exact ⟨rfl, _, rfl⟩

set_option maxHeartbeats 2000000 in
theorem takeAll_any (rest : List UInt8) (n : Nat) (most : Int) (hn : n < 18446744073709551616) (hl : rest.length ≤ 140737488351232) (hs : n ≤ 4294967296 ∨ rest.length ≤ 4294967296)
    (o1 : -9223372036854775808 ≤ most) (o2 : most ≤ 9223372036854775807) (ad : Addr) (w : World) (hc : w.cell? ad = some (.int .i64 most)) :
    Calls Try.prog 54 #[tx rest, .int .u64 n, .func (Fn.func 55) #[] #[.pointer (some ad)]] w (TR (Dg.takeTexts n rest most) w) := by
  obtain ⟨i0, hi, hz0, hz1, hz2⟩ := info_parts info_text
  have HS := Lib.hid hs
  clear hs
  go_enter Try.func54, Try.ntmps54
  go_wp2_with fail
  go_loopw [0, 9, 14] (fun r v i wr => ∃ (k : Nat) (s : List UInt8) (acc : List (List UInt8)), i = .int .u64 k ∧ k ≤ n ∧ r = tx s ∧ s.length + acc.length ≤ rest.length ∧ acc.length ≤ k ∧ Below w.heap.size w wr ∧ wr.ownsRow w.heap.size 9 1 v acc.length (acc.map tx) ∧ Dg.takeTexts n rest most = Dg.glue acc (Dg.takeTexts (n - k) s most)) (fun _ _ i _ => n - (intOf i).toNat)
  case atStart => exact ⟨0, rest, [], rfl, by omega, rfl, by simp, by simp, Below.refl _ _, ⟨rfl, .inl ⟨rfl, rfl⟩⟩, by rw [Dg.glue_nil]; rfl⟩
  case round =>
    obtain ⟨k, s, acc, rfl, hk, rfl, hlen, hak, hbel, hown, hg⟩ := hrel
    have hA : acc.length ≤ 4294967296 := by rcases HS.out with h | h <;> omega
    by_cases hlt : k < n
    · obtain ⟨t, r, x, ht⟩ : ∃ t r x, Dg.takeText s most = (t, r, x) := ⟨_, _, _, rfl⟩
      obtain ⟨j, hj⟩ : ∃ j, n - k = j + 1 := ⟨n - k - 1, by omega⟩
      have hcw : wr.cell? ad = some (.int .i64 most) := below_cell hbel hc
      have hless := Dg.takeText_less s most
      rw [ht] at hless
      simp only [] at hless
      by_cases h0 : x = 0
      · subst h0
        have hless := hless rfl
        rw [hj, Dg.glue_step acc j s most ht] at hg
        have hj' : n - (k + 1) = j := by omega
        rw [← hj'] at hg
        have HX := Lib.hid ht
        have HG := Lib.hid hg
        have HO := Lib.hid hown
        have HC := Lib.hid hcw
        clear ht hj hg hj' hown hcw hc
        go_wp2_with fail
        refine (takeText_lit s most HX.out (by omega) o1 o2 ad _ HC.out).mono ?_
        rintro e w1 ⟨rfl, q2, rfl⟩
        have hsz := hbel.size
        have hown1 := (below_own HO.out hbel.size q2)
        have HO1 := Lib.hid hown1
        clear hown1
        go_wp2_with (at_builtin; refine wpList_append_own _ rfl _ _ 24 rfl w.heap.size 9 i0 (.string ⟨#[]⟩) 1 16 Try.underlying24 hi hz0 hz1 hz2 rfl (by decide) _ _ _ rfl (HO1.out.alloc _) ⟨wr.heap.size, 0, none⟩ 1 1 [tx t] rfl rfl ?c1 ?c2 ?c3 ?c4 ?c5 ?_)
        case c1 => exact new_cell _ _ rfl _ _
        case c2 => intro u hu; simp at hu; subst hu; rfl
        case c3 => unfold maxLen; omega
        case c4 => omega
        case c5 => simp; omega
        intro v' w2 hown2 hgrow _
        have hown3 : w2.ownsRow w.heap.size 9 1 v' (acc ++ [t]).length ((acc ++ [t]).map tx) := by simpa using hown2
        have hbel2 : Below w.heap.size w w2 := ((below_drewN hbel q2).alloc (by simpa using hsz) _).grown hgrow (by simp; omega) (fun k hk => (HO1.out.lt k hk).1)
        have HO3 := Lib.hid hown3
        clear hown2 hown3 hgrow HO HO1
        go_wp2
        go_roundw
        case rel => exact ⟨k + 1, r, acc ++ [t], by go_num, by omega, rfl, by simp; omega, by simp; omega, hbel2, HO3.out, HG.out⟩
        case measure => simp [intOf]; omega
      · rw [hj, Dg.glue_bad acc j s most ht h0] at hg
        have h0' : ((x : Int) != 0) = true := by rw [bne_iff_ne]; omega
        have HX := Lib.hid ht
        have HG := Lib.hid hg
        have HC := Lib.hid hcw
        clear ht hj hg hown hless h0 hcw hc
        go_wp2_with fail
        refine (takeText_lit s most HX.out (by omega) o1 o2 ad _ HC.out).mono ?_
        rintro e w1 ⟨rfl, q2, rfl⟩
        go_wp2_with fail
        go_ret3
        rw [HG.out]
        exact ⟨_, rfl, .inl ⟨_, _, rfl, rfl⟩, TyV.nil _ _ _, below_drewN hbel _⟩
    · obtain rfl : k = n := by omega
      rw [Nat.sub_self, Dg.glue_zero] at hg
      have HG := Lib.hid hg
      have HO := Lib.hid hown
      clear hg hown
      go_wp2
      go_ret3
      rw [HG.out]
      exact ⟨_, rfl, TxAt.own HO.out, TyV.own HO.out, hbel⟩

set_option maxHeartbeats 1000000 in
theorem takeRow_gen (l : List UInt8) (many most : Int) (hl : l.length ≤ 140737488351232) (hs : many ≤ 4294967296 ∨ l.length ≤ 4294967296)
    (m1 : -9223372036854775808 ≤ many) (m2 : many ≤ 9223372036854775807) (o1 : -9223372036854775808 ≤ most) (o2 : most ≤ 9223372036854775807) (w : World) :
    Calls Try.prog 32 #[tx l, .int .i64 many, .int .i64 most] w (TR (Dg.takeRow l many most) w) := by
  obtain ⟨n, r, x, ht⟩ : ∃ n r x, Dg.takeNum l = (n, r, x) := ⟨_, _, _, rfl⟩
  have hn := Dg.takeNum_bound l
  have hr := Dg.takeNum_rest l
  rw [ht] at hn hr
  simp only [] at hn hr
  have HS := Lib.hid hs
  clear hs
  by_cases hx : x = 0
  · subst hx
    cases ha : Dg.above n many with
    | true =>
      have e : Dg.takeRow l many most = ([], [], 4) := by simp [Dg.takeRow, ht, ha]
      rw [e]
      have HT := Lib.hid ht
      have HA := Lib.hid ha
      clear ht ha e
      go_enter Try.func32, Try.ntmps32
      go_wp2_with fail
      refine (takeNum_eq HT.out (by omega) _).mono ?_
      rintro e w1 ⟨rfl, q, rfl⟩
      go_wp2_with fail
      refine (above_eq HA.out m1 m2 _).mono ?_
      rintro e w1 ⟨rfl, rfl⟩
      go_wp2_with fail
      go_ret3
      exact ⟨_, rfl, .inl ⟨_, _, rfl, rfl⟩, TyV.nil _ _ _, below_drewN ((Below.refl _ _).alloc (Nat.le_refl _) _) _⟩
    | false =>
      have e : Dg.takeRow l many most = Dg.takeTexts n r most := by simp [Dg.takeRow, ht, ha]
      rw [e]
      have hs2 : n ≤ 4294967296 ∨ r.length ≤ 4294967296 := by
        have ha2 : (n : Int) ≤ many := by simp [Dg.above] at ha; omega
        rcases HS.out with h | h <;> omega
      have HS2 := Lib.hid hs2
      clear hs2
      have HT := Lib.hid ht
      have HA := Lib.hid ha
      clear ht ha e
      go_enter Try.func32, Try.ntmps32
      go_wp2_with fail
      refine (takeNum_eq HT.out (by omega) _).mono ?_
      rintro e w1 ⟨rfl, q, rfl⟩
      go_wp2_with fail
      refine (above_eq HA.out m1 m2 _).mono ?_
      rintro e w1 ⟨rfl, rfl⟩
      go_wp2_with fail
      refine (takeAll_any r n most hn (by omega) HS2.out o1 o2 ⟨w.heap.size, 0, none⟩ _ (by simp)).mono ?_
      rintro e w2 ⟨v, rfl, hv, ty, hb⟩
      have HV := Lib.hid hv
      have TY := Lib.hid ty
      clear hv ty
      go_wp2_with fail
      go_ret3
      exact ⟨_, rfl, HV.out, TY.out, grow_trans (below_drewN ((Below.refl _ _).alloc (Nat.le_refl _) _) _) hb⟩
  · have e : Dg.takeRow l many most = ([], [], x) := by simp [Dg.takeRow, ht, hx]
    rw [e]
    have h0' : ((x : Int) != 0) = true := by rw [bne_iff_ne]; omega
    have HT := Lib.hid ht
    clear ht e hx
    go_enter Try.func32, Try.ntmps32
    go_wp2_with fail
    refine (takeNum_eq HT.out (by omega) _).mono ?_
    rintro e w1 ⟨rfl, q, rfl⟩
    go_wp2_with fail
    go_ret3
    exact ⟨_, rfl, .inl ⟨_, _, rfl, rfl⟩, TyV.nil _ _ _, below_drewN ((Below.refl _ _).alloc (Nat.le_refl _) _) _⟩
theorem takeRow_any (l : List UInt8) (many most : Int) (hl : l.length ≤ 4294967296)
    (m1 : -9223372036854775808 ≤ many) (m2 : many ≤ 9223372036854775807) (o1 : -9223372036854775808 ≤ most) (o2 : most ≤ 9223372036854775807) (w : World) :
    Calls Try.prog 32 #[tx l, .int .i64 many, .int .i64 most] w (TR (Dg.takeRow l many most) w) := takeRow_gen l many most (by omega) (.inr hl) m1 m2 o1 o2 w
end Go.Proofs.Ytmhohnffaffdfaa
