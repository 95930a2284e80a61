/- The document's Read. -/
import Derived.Test.YtkkiedmcpibnaaaDoorPapRead
namespace Go.Proofs.YtkkiedmcpibnaaaDoor
open Go.RowKit
set_option maxRecDepth 100000
theorem info_txR0 : (Tryd.prog.info? 9).map (fun i => (i.zero, i.size, i.bytes)) = some (some (.string ⟨#[]⟩), 1, 16) := by kernel_rfl
theorem own_drawn {w : World} {base n : Nat} {t : TypeId} {v : Value} {xs : List Value} (h : w.ownsRow base t 1 v n xs) (q : Nat) : (w.drewN q).ownsRow base t 1 v n xs := h

set_option maxHeartbeats 4000000 in
theorem rread (s t : List UInt8) (rs : List (List UInt8)) (hs : s.length ≤ 4398046511104) (hR : Pp.Rd s rs t) (w : World) :
    Calls Tryd.prog 13 #[tx s] w fun e w' => ∃ v, e = .returned (.tuple #[v, .int .i64 ((Pp.frs rs).length : Int)]) ∧ TxAt w' v rs ∧ Below w.heap.size w w' := by
  obtain ⟨i0, hi, hz0, hz1, hz2⟩ := info_parts info_txR0
  have hrl := Pp.rd_len hR
  have HR := Lib.hid hR
  clear hR
  go_enter Tryd.func13, Tryd.ntmps13
  go_wp2_with fail
  go_loopw [4, 5] (fun v i wr => ∃ (p q : List (List UInt8)) (u : List UInt8), rs = p ++ q ∧ s = Pp.frs p ++ u ∧ i = .int .i64 ((Pp.frs p).length : Int) ∧ Below w.heap.size w wr ∧ wr.ownsRow w.heap.size 9 1 v p.length (p.map tx)) (fun _ i _ => s.length - (intOf i).toNat)
  case atStart => exact ⟨[], rs, s, rfl, rfl, rfl, Below.refl _ _, ⟨rfl, .inl ⟨rfl, rfl⟩⟩⟩
  case round =>
    obtain ⟨p, q, u, hpq, hsu, rfl, hbel, hown⟩ := hrel
    obtain ⟨st1, st2⟩ := Pp.rd_step HR.out hpq hsu
    have hsl := congrArg List.length hsu
    rw [List.length_append] at hsl
    have hpl : p.length ≤ rs.length := by rw [hpq, List.length_append]; omega
    obtain ⟨k, hk⟩ : ∃ k, (Pp.frs p).length = k := ⟨_, rfl⟩
    rw [hk] at hsl ⊢
    have HU := Lib.hid (show s.drop k = u by rw [hsu, ← hk, List.drop_left])
    have HO := Lib.hid hown
    have HB := Lib.hid hbel
    have hsz := hbel.size
    have HSU := Lib.hid hsu
    have HK := Lib.hid hk
    have HSL := hsl
    have hul : u.length ≤ s.length := by omega
    by_cases hlt : k < s.length
    · obtain ⟨x, y, e, hT⟩ : ∃ x y e, Dg.takeText u 65536 = (x, y, e) := ⟨_, _, _, rfl⟩
      have hE := Pp.take1_eq hT
      have HT := Lib.hid (rtakeText_eq hT (by omega) (by omega) (by omega))
      have hrl2 := Dg.takeText_rest u 65536
      rw [hT] at hrl2
      simp only [] at hrl2
      have t0 : decide (k < s.length) = true := decide_eq_true (by omega)
      have s1 : (0 : Int) ≤ (k : Int) := by omega
      have s2 : (k : Int) ≤ (s.length : Int) := by omega
      have hnone : Pp.take1 u = none → rs = p := fun h => by
        cases q with
        | nil => rw [hpq, List.append_nil]
        | cons r q' => rw [st2 r q' rfl] at h; exact absurd h (by simp)
      by_cases he : e = 0
      · subst he
        have hxs : x.length ≤ 65536 := by have := (Dg.takeText_back u x y 65536 hT).2.1; omega
        by_cases hl : y.length < 4
        · have HF := Lib.hid (hnone (by rw [hE, if_neg (by omega)]))
          have t1 : decide ((y.length : Int) < 4) = true := decide_eq_true (by omega)
          clear hE hT hnone st1 st2 hbel hown hsu hpq hk hsl HSL hl hxs
          go_wp2_with fail
          simp only [ba_drop, HU.out]
          refine (HT.out _).mono ?_
          rintro e w1 ⟨rfl, m, rfl⟩
          go_wp2
          go_ret2
          refine ⟨_, by rw [HF.out, HK.out]; rfl, ?_, below_drewN HB.out m⟩
          rw [HF.out]
          exact TxAt.own (own_drawn HO.out m)
        · have t1 : decide ((y.length : Int) < 4) = false := decide_eq_false (by omega)
          obtain ⟨d, hd⟩ : ∃ d, Sh.sum x = d := ⟨_, rfl⟩
          have hdl : d.length = 32 := by rw [← hd]; exact Pp.sum_32 x
          have hch : Pp.chk x = d.take 4 := by rw [Pp.chk, hd]
          have HD := Lib.hid (rsum_eq hd (by omega))
          have u1 : (4 : Int) ≤ (d.length : Int) := by omega
          have u2 : (4 : Int) ≤ (y.length : Int) := by omega
          by_cases hz : d.take 4 = y.take 4
          · have hyes : Pp.take1 u = some (x, y.drop 4) := by rw [hE, if_pos ⟨rfl, by omega, by rw [hch, hz]⟩]
            have hq : ∃ q', q = x :: q' := by
              cases q with
              | nil => rw [st1 rfl] at hyes; exact absurd hyes (by simp)
              | cons r q' =>
                have := st2 r q' rfl
                rw [hyes] at this
                simp only [Option.some.injEq, Prod.mk.injEq] at this
                exact ⟨q', by rw [this.1]⟩
            obtain ⟨q', rfl⟩ := hq
            have hpl2 : p.length + 1 ≤ rs.length := by rw [hpq, List.length_append, List.length_cons]; omega
            have hsu2 : s = Pp.frs (p ++ [x]) ++ y.drop 4 := by
              rw [hsu, Pp.frs_app, Pp.frs_one, List.append_assoc, ← (Pp.take1_some hyes).1]
            have hk2 : (Pp.frs (p ++ [x])).length = s.length - y.length + 4 := by
              have := congrArg List.length hsu2
              rw [List.length_append, List.length_drop] at this
              omega
            have hk3 : k < s.length - y.length + 4 := by
              rw [← hk2, Pp.frs_app, List.length_append, hk, Pp.frs_one]
              have := Pp.frm_len x
              omega
            have HPQ2 := Lib.hid (show rs = (p ++ [x]) ++ q' by rw [hpq, List.append_assoc]; rfl)
            have HSU2 := Lib.hid hsu2
            have HK2 := Lib.hid (show (((Pp.frs (p ++ [x])).length : Nat) : Int) = (s.length : Int) - (y.length : Int) + 4 by rw [hk2]; omega)
            have t3 : (((⟨d.toArray⟩ : ByteArray).extract 0 4).toList == ((⟨y.toArray⟩ : ByteArray).extract 0 4).toList) = true := by rw [Lib.extract_toList, Lib.extract_toList, beq_iff_eq]; simpa using hz
            clear hyes hsu2 hk2 hd hch hz hxs hl
            clear hE hT hnone st1 st2 hbel hown hsu hpq hk hsl HSL
            go_wp2_with fail
            simp only [ba_drop, HU.out]
            refine (HT.out _).mono ?_
            rintro e w1 ⟨rfl, m, rfl⟩
            go_wp2_with fail
            refine (HD.out _).mono ?_
            rintro e w2 ⟨rfl, g2⟩
            have B2 := Lib.hid (grow_trans (below_drewN HB.out m) g2)
            have O2 := Lib.hid (World.ownsRow.kept (own_drawn HO.out m) (grown_of g2) (Classical.em _))
            clear g2
            go_wp2_with fail
            go_quiet (fail)
            have hsz2 := B2.out.size
            go_wp2_with (at_builtin; refine wpList_append_own _ rfl _ _ 28 rfl w.heap.size 9 i0 (.string ⟨#[]⟩) 1 16 Tryd.underlying28 hi hz0 hz1 hz2 rfl (by decide) _ _ _ rfl ((own_drawn O2.out nq).alloc _) ⟨w2.heap.size, 0, none⟩ 1 1 [tx x] rfl rfl ?c1 ?c2 ?c3 ?c4 ?c5 ?_)
            case c1 => exact new_cell _ _ rfl _ _
            case c2 => intro u hu; simp at hu; subst hu; rfl
            case c3 => unfold maxLen; omega
            case c4 => omega
            case c5 => simp; omega
            intro v' w3 hown3 hgrow _
            have hown4 : w3.ownsRow w.heap.size 9 1 v' (p ++ [x]).length ((p ++ [x]).map tx) := by simpa using hown3
            have hbel2 : Below w.heap.size w w3 := ((below_drewN B2.out nq).alloc (by simpa using hsz2) _).grown hgrow (by simp; omega) (fun k hk => (O2.out.lt k hk).1)
            have HO4 := Lib.hid hown4
            clear hown3 hown4 hgrow HO O2
            go_wp2
            go_roundw
            case rel => exact ⟨p ++ [x], q', y.drop 4, HPQ2.out, HSU2.out, by rw [HK2.out], hbel2, HO4.out⟩
            case measure => simp [intOf]; omega
          · have HF := Lib.hid (hnone (by rw [hE, if_neg (by rw [hch]; exact fun h => hz h.2.2.symm)]))
            have t3 : (((⟨d.toArray⟩ : ByteArray).extract 0 4).toList == ((⟨y.toArray⟩ : ByteArray).extract 0 4).toList) = false := by rw [Lib.extract_toList, Lib.extract_toList, beq_eq_false_iff_ne]; simpa using hz
            clear hd hch hz hxs hl
            clear hE hT hnone st1 st2 hbel hown hsu hpq hk hsl HSL
            go_wp2_with fail
            simp only [ba_drop, HU.out]
            refine (HT.out _).mono ?_
            rintro e w1 ⟨rfl, m, rfl⟩
            go_wp2_with fail
            refine (HD.out _).mono ?_
            rintro e w2 ⟨rfl, g2⟩
            have B2 := Lib.hid (grow_trans (below_drewN HB.out m) g2)
            have O2 := Lib.hid (World.ownsRow.kept (own_drawn HO.out m) (grown_of g2) (Classical.em _))
            clear g2
            go_wp2_with fail
            go_quiet (fail)
            go_wp2
            go_ret2
            refine ⟨_, by rw [HF.out, HK.out]; rfl, ?_, below_drewN B2.out _⟩
            rw [HF.out]
            exact TxAt.own (own_drawn O2.out _)
      · have HF := Lib.hid (hnone (by rw [hE, if_neg (by omega)]))
        have t1 : ((e : Int) != 0) = true := by rw [bne_iff_ne]; omega
        clear hE hT hnone st1 st2 hbel hown hsu hpq hk hsl HSL he
        go_wp2_with fail
        simp only [ba_drop, HU.out]
        refine (HT.out _).mono ?_
        rintro e w1 ⟨rfl, m, rfl⟩
        go_wp2
        go_ret2
        refine ⟨_, by rw [HF.out, HK.out]; rfl, ?_, below_drewN HB.out m⟩
        rw [HF.out]
        exact TxAt.own (own_drawn HO.out m)
    · have HF := Lib.hid (show rs = p by
        cases q with
        | nil => rw [hpq, List.append_nil]
        | cons r q' =>
          have h0 : u = [] := List.length_eq_zero_iff.1 (by omega)
          have := st2 r q' rfl
          rw [h0, Pp.take1_nil] at this
          exact absurd this (by simp))
      have t0n : decide (k < s.length) = false := decide_eq_false (by omega)
      clear st1 st2 hbel hown hsu hpq hk hsl HSL
      go_wp2
      go_ret2
      refine ⟨_, by rw [HF.out, HK.out]; rfl, ?_, HB.out⟩
      rw [HF.out]
      exact TxAt.own HO.out
end Go.Proofs.YtkkiedmcpibnaaaDoor
