/- Rows of the call's own; the statements' right and distinct. -/
import Derived.Test.YtngmkokmomficaaShOpenIn
import Derived.Deep.DeepCutAuto
namespace Go.Proofs.Ytngmkokmomficaa
open Go.RowKit
attribute [local go_sem] build_el build_el0 build_el1 build_el2 guard_el eqE_self

theorem info_int : (Try.prog.info? 3).map (fun i => (i.zero, i.size, i.bytes)) = some (some (.int .i64 0), 1, 8) := by kernel_rfl
theorem info_el : (Try.prog.info? 24).map (fun i => (i.zero, i.size, i.bytes)) = some (some (.agg #[.int .i64 0, .int .i64 0]), 2, 16) := by kernel_rfl
theorem info_shr : (Try.prog.info? 27).map (fun i => (i.zero, i.size, i.bytes)) = some (some (.agg #[.int .i64 0, .int .i64 0, .int .i64 0]), 3, 24) := by kernel_rfl
theorem own_below {w w' : World} {base k : Nat} {t : TypeId} {v : Value} {n : Nat} {cs : List Value} (h : w.ownsRow base t k v n cs) (hb : Below w.heap.size w w') : w'.ownsRow base t k v n cs := by
  obtain ⟨h1, h2⟩ := h
  refine ⟨h1, ?_⟩
  rcases h2 with h2 | ⟨g, cap, cur, hv, hg, hh, r⟩
  · exact .inl h2
  · exact .inr ⟨g, cap, cur, hv, hg, by rw [hb.block g (Array.getElem?_eq_some_iff.1 hh).1]; exact hh, r⟩
theorem new_cells (W : World) (vs : List Value) (t : TypeId) : ∀ j u, vs[j]? = some u → (W.alloc (.cells vs.toArray t)).cell? ((⟨W.heap.size, 0, none⟩ : Addr).add j) = some u := by
  intro j u h
  have ha : (⟨W.heap.size, 0, none⟩ : Addr).add j = ⟨W.heap.size, j, none⟩ := by unfold Addr.add; split <;> simp_all
  rw [ha, World.cell?_alloc_at _ _ _ _ rfl]
  simpa using h
theorem ints_snoc (l : List Int) (x : Int) : ints (l ++ [x]) = ints l ++ [.int .i64 x] := by simp [ints, iv]
theorem shrs_snoc (l : List Sr.Shr) (s : Sr.Shr) : shrs (l ++ [s]) = shrs l ++ [.int .i64 s.1, .int .i64 s.2.1, .int .i64 s.2.2] := by rw [shrs_app]; rfl
theorem elems_snoc (l : List Ga.E) (s : Ga.E) : elems (l ++ [s]) = elems l ++ [.int .i64 s.1, .int .i64 s.2] := by rw [elems_app]; rfl
/-- A list of numbers, where it stands. -/
theorem ints_row {w : World} {v : Value} {l : List Int} (h : FlatAt w v 1 (ints l)) {w' : World} (hb : Below w.heap.size w w') (h0 : 0 < l.length) :
    ∃ b off cap, v = .slice (some ⟨b, off, none⟩) l.length cap ∧ ∀ k (hk : k < l.length), w'.cell? ⟨b, off + k, none⟩ = some (.int .i64 l[k]) := by
  rcases flat_ints h hb with ⟨rfl, _⟩ | ⟨_, b, off, cap, hv, hc⟩
  · simp at h0
  · exact ⟨b, off, cap, hv, hc⟩

set_option maxHeartbeats 4000000 in
set_option maxRecDepth 100000 in
theorem right_any (v : Value) (p : List Ga.E) (w : World) (hv : FlatAt w v 2 (elems p)) (hlen : p.length ≤ 140737488351232) :
    Calls Try.prog 21 #[v] w fun e w' => e = .returned (.bool (p.all Ga.ok)) ∧ Below w.heap.size w w' := by
  have hrow := Lib.hid (fun (w' : World) (hb : Below w.heap.size w w') (h0 : 0 < p.length) => elems_row hv hb h0)
  obtain ⟨av, cv, rfl⟩ := hv.len (n := p.length) (elems_len p) (by omega)
  obtain ⟨r, hr⟩ : ∃ r, p.all Ga.ok = r := ⟨_, rfl⟩
  rw [hr]
  have HR := Lib.hid hr
  clear hv hr
  go_enter Try.func21, Try.ntmps21
  go_wp2_with fail
  go_loopw [3] (fun t wr => ∃ k : Nat, t = .int .i64 k ∧ k ≤ p.length ∧ (p.take k).all Ga.ok = true ∧ Below w.heap.size w wr) (fun t _ => p.length - (intOf t).toNat)
  case atStart => exact ⟨0, rfl, by omega, rfl, Below.refl _ _⟩
  case round =>
    obtain ⟨k, rfl, hk, hall, kb⟩ := hrel
    have HALL := Lib.hid hall
    clear hall
    by_cases hlt : k < p.length
    · obtain ⟨b, off, cap, hv, hblt, hc⟩ := hrow.out _ kb (by omega)
      injection hv with e1 _ e2
      subst e1 e2
      obtain ⟨c0, c1⟩ := hc k hlt
      have hn := all_take p k hlt
      rw [HALL.out, Bool.true_and] at hn
      obtain ⟨c, hcj⟩ : ∃ c, p[k] = c := ⟨_, rfl⟩
      rw [hcj] at c0 c1 hn
      have HM' := Lib.hid (show c ∈ p from hcj ▸ List.getElem_mem hlt)
      clear hc hcj
      have ti : (k : Int) < (p.length : Int) := by omega
      cases hok : Ga.ok c with
      | false =>
        obtain rfl : r = false := by rw [← HR.out, List.all_eq_false]; exact ⟨c, HM'.out, by rw [hok]; simp⟩
        have HK := Lib.hid hok
        clear hok hn
        go_wp2_with fail
        refine (r_may HK.out _).mono ?_
        rintro e w2 ⟨rfl, h2⟩
        have kb2 := kb.trans (h2.mono kb.size)
        go_wp2
        go_ret
        exact ⟨rfl, kb2⟩
      | true =>
        have HK := Lib.hid hok
        have HN := Lib.hid (hn.trans hok)
        clear hok hn
        go_wp2_with fail
        refine (r_may HK.out _).mono ?_
        rintro e w2 ⟨rfl, h2⟩
        have kb2 := kb.trans (h2.mono kb.size)
        clear kb h2
        go_wp2
        go_roundw
        case rel => exact ⟨k + 1, by go_num, by omega, HN.out, kb2⟩
        case measure => simp [intOf]; omega
    · obtain rfl : k = p.length := by omega
      obtain rfl : r = true := by have := HALL.out; rw [List.take_length, HR.out] at this; exact this
      go_wp2
      go_ret
      exact ⟨rfl, kb⟩

theorem not_in_next (o : List Int) (j : Nat) (h : j < o.length) (x : Int) : (o.take (j + 1)).contains x = ((o.take j).contains x || o[j] == x) := by
  rw [List.take_succ_eq_append_getElem h, Bool.eq_iff_iff, Bool.or_eq_true, List.contains_iff_mem, List.contains_iff_mem, beq_iff_eq, List.mem_append, List.mem_singleton]
  exact or_congr_right eq_comm

set_option maxHeartbeats 8000000 in
set_option maxRecDepth 100000 in
theorem distinct_any (v : Value) (l : List Int) (w : World) (hv : FlatAt w v 1 (ints l)) (hlen : l.length ≤ 9223372036854775807) :
    Calls Try.prog 20 #[v] w fun e w' => ∃ u, e = .returned u ∧ FlatAt w' u 1 (ints (Sr.dis l [])) ∧ Below w.heap.size w w' := by
  obtain ⟨i0, hi, hz0, hz1, hz2⟩ := info_parts info_int
  have hrow := Lib.hid (fun (w' : World) (hb : Below w.heap.size w w') (h0 : 0 < l.length) => ints_row hv hb h0)
  obtain ⟨av, cv, rfl⟩ := hv.len (n := l.length) (ints_len l) (by omega)
  have HD := Lib.hid (Sr.dis_take l)
  have HA := Lib.hid (fun k => Sr.dis_apart (l.take k) [] (by decide))
  have HN0 := Lib.hid (fun (o : List Int) (j : Nat) (h : j < o.length) (x : Int) => not_in_next o j h x)
  clear hv
  go_enter Try.func20, Try.ntmps20
  go_wp2_with fail
  go_loopw [3, 4] (fun u t wr => ∃ k : Nat, t = .int .i64 k ∧ k ≤ l.length ∧ wr.ownsRow w.heap.size 3 1 u (Sr.dis (l.take k) []).length (ints (Sr.dis (l.take k) [])) ∧ Below w.heap.size w wr) (fun _ t _ => l.length - (intOf t).toNat)
  case atStart => exact ⟨0, rfl, by omega, World.ownsRow_nil _ _ _ _, Below.refl _ _⟩
  case round =>
    obtain ⟨k, rfl, hk, hown, kb⟩ := hrel
    by_cases hlt : k < l.length
    · obtain ⟨b, off, cap, hv, hc⟩ := hrow.out _ kb (by omega)
      injection hv with e1 _ e2
      subst e1 e2
      have c0 := hc k hlt
      have hd := HD.out k hlt []
      have hap := Sr.apart_len (HA.out k)
      obtain ⟨x, hx⟩ : ∃ x, l[k] = x := ⟨_, rfl⟩
      obtain ⟨o, ho⟩ : ∃ o, Sr.dis (l.take k) [] = o := ⟨_, rfl⟩
      rw [hx] at c0 hd
      rw [ho] at hd hown hap
      have ti : (k : Int) < (l.length : Int) := by omega
      have HX := Lib.hid hx
      have HO := Lib.hid hd
      have HCC := Lib.hid hc
      clear hc hx hd ho
      obtain ⟨uo, cu, rfl⟩ := (FlatAt.own hown).len (n := o.length) (ints_len o) (by omega)
      have HW := Lib.hid hown
      have hbad : Sr.mayId x = false → Sr.dis (l.take (k + 1)) [] = o := fun h => by rw [HO.out, h]; rfl
      have hin : o.contains x = true → Sr.dis (l.take (k + 1)) [] = o := fun h => by rw [HO.out, h]; simp
      have hnew : Sr.mayId x = true → o.contains x = false → Sr.dis (l.take (k + 1)) [] = o ++ [x] := fun h h2 => by rw [HO.out, h, h2]; rfl
      have hdone : ∀ b : Bool, b = (!Sr.mayId x || (o.take o.length).contains x) → (b = true → Sr.dis (l.take (k + 1)) [] = o) ∧ (b = false → Sr.dis (l.take (k + 1)) [] = o ++ [x]) := by
        intro b hb
        rw [List.take_length] at hb
        subst hb
        cases hm : Sr.mayId x
        · exact ⟨fun _ => hbad hm, fun h => by simp at h⟩
        · cases hc : o.contains x
          · exact ⟨fun h => by simp at h, fun _ => hnew hm hc⟩
          · exact ⟨fun _ => hin hc, fun h => by simp at h⟩
      have HDN := Lib.hid hdone
      clear hbad hin hnew hdone
      obtain ⟨m, hm⟩ : ∃ m, Sr.mayId x = m := ⟨_, rfl⟩
      have hx1 : (x < 1 ∨ 64 < x) ↔ m = false := by
        rw [← hm, Sr.mayId, decide_eq_false_iff_not]
        omega
      rw [hm] at HDN
      have hstart : m = true ∨ x < 1 ∨ (¬ x < 1 ∧ 64 < x) := by
        cases m
        · have := hx1.2 rfl
          omega
        · exact .inl rfl
      have HX1 := Lib.hid hx1
      clear hm hx1 hown
      have hfirst : (decide (x < (1 : Int)) = true ∧ m = false) ∨ (decide (x < (1 : Int)) = false ∧ decide ((64 : Int) < x) = true ∧ m = false) ∨ (decide (x < (1 : Int)) = false ∧ decide ((64 : Int) < x) = false ∧ m = true) := by
        have hx1 := HX1.out
        by_cases h1 : x < 1
        · exact .inl ⟨decide_eq_true h1, hx1.1 (.inl h1)⟩
        · by_cases h2 : 64 < x
          · exact .inr (.inl ⟨decide_eq_false h1, decide_eq_true h2, hx1.1 (.inr h2)⟩)
          · refine .inr (.inr ⟨decide_eq_false h1, decide_eq_false h2, ?_⟩)
            cases m
            · have := hx1.2 rfl
              omega
            · rfl
      clear hstart HX1
      go_upto_region 5 with fail
      go_cut [5] (fun s wx => s = .bool (!m) ∧ wx = wr)
      case first =>
        rcases hfirst with ⟨t1, rfl⟩ | ⟨t1, t2, rfl⟩ | ⟨t1, t2, rfl⟩
        all_goals
          go_wp2_with fail
          go_meet
          exact ⟨rfl, rfl⟩
      case rest =>
        obtain ⟨rfl, hwc⟩ := hcut
        subst hwc
        clear hfirst
        have HWL := Lib.hid (fun (w' : World) (hb : Below wc.heap.size wc w') => FlatAt.own (own_below HW.out hb))
        go_wp2_with fail
        go_loopw [5, 6] (fun h j w2 => ∃ (n : Nat) (bb : Bool), j = .int .i64 n ∧ h = .bool bb ∧ n ≤ o.length ∧ bb = (!m || (o.take n).contains x) ∧ Below wc.heap.size wc w2) (fun _ j _ => o.length - (intOf j).toNat)
        case atStart => exact ⟨0, !m, rfl, rfl, by omega, by simp, Below.refl _ _⟩
        case round =>
          obtain ⟨n, bb, rfl, rfl, hn, hbb, hb2⟩ := hrel
          by_cases hno : n < o.length
          · have tn : (n : Int) < (o.length : Int) := by omega
            have hnx := HN0.out o n hno x
            cases bb with
            | true =>
              have HNX := Lib.hid (show true = (!m || (o.take (n + 1)).contains x) by rw [hnx, ← Bool.or_assoc, ← hbb]; rfl)
              clear hnx hbb
              go_wp2_with fail
              go_quiet (fail)
              go_wp2
              go_roundw
              case rel => exact ⟨n + 1, true, by go_num, rfl, by omega, HNX.out, below_drewN hb2 _⟩
              case measure => simp [intOf]; omega
            | false =>
              obtain ⟨b', off', cap', hv, hco⟩ := ints_row (HWL.out _ hb2) (Below.refl _ _) (by omega)
              injection hv with e1 _ e2
              subst e1 e2
              have c1 := hco n hno
              have c2 := below_cell hb2 c0
              obtain ⟨y, hy⟩ : ∃ y, o[n] = y := ⟨_, rfl⟩
              rw [hy] at c1 hnx
              have HNX := Lib.hid (show (y == x) = (!m || (o.take (n + 1)).contains x) by rw [hnx, ← Bool.or_assoc, ← hbb]; rfl)
              clear hnx hbb hco hy
              cases hyx : (y == x) with
              | true =>
                rw [hyx] at HNX
                go_wp2_with fail
                go_quiet (fail)
                go_wp2
                go_roundw
                case rel => exact ⟨n + 1, true, by go_num, rfl, by omega, HNX.out, below_drewN hb2 _⟩
                case measure => simp [intOf]; omega
              | false =>
                rw [hyx] at HNX
                go_wp2_with fail
                go_quiet (fail)
                go_wp2
                go_roundw
                case rel => exact ⟨n + 1, false, by go_num, rfl, by omega, HNX.out, below_drewN hb2 _⟩
                case measure => simp [intOf]; omega
          · obtain rfl : n = o.length := by omega
            obtain ⟨hd1, hd2⟩ := HDN.out bb hbb
            have kb2 := kb.trans (hb2.mono kb.size)
            have HW2 := Lib.hid (own_below HW.out hb2)
            cases bb with
            | true =>
              have HE := Lib.hid (hd1 rfl)
              clear hd1 hd2 hbb
              go_wp2
              go_roundw
              case rel => exact ⟨k + 1, by go_num, by omega, by rw [HE.out]; exact HW2.out, kb2⟩
              case measure => simp [intOf]; omega
            | false =>
              have HE := Lib.hid (hd2 rfl)
              have c2 := below_cell hb2 c0
              have HNW := Lib.hid (fun (W : World) => new_cells W [.int .i64 x] 3)
              clear hd1 hd2 hbb
              go_wp2_with (at_builtin; refine wpList_append_own _ rfl _ _ 43 rfl w.heap.size 3 i0 (.int .i64 0) 1 8 Try.underlying43 hi hz0 hz1 hz2 rfl (by decide) _ _ _ rfl (HW2.out.alloc _) ⟨_, 0, none⟩ 1 1 [.int .i64 x] rfl rfl (HNW.out _) (by intro u hu; simp at hu; subst hu; rfl) (by unfold maxLen; omega) (by omega) (by have := kb2.size; simp; omega) ?_; intro v3 w3 hown3 hg _; have HO3 := Lib.hid hown3; have HG := Lib.hid hg; clear hown3 hg)
              go_roundw
              case rel =>
                refine ⟨k + 1, by go_num, by omega, ?_, (kb2.alloc kb2.size _).grown HG.out (by have := kb2.size; simp; omega) (fun k hk => (HW2.out.lt k hk).1)⟩
                rw [HE.out, ints_snoc, List.length_append]
                exact HO3.out
              case measure => simp [intOf]; omega
    · obtain rfl : k = l.length := by omega
      rw [List.take_length] at hown
      go_wp2
      go_ret
      exact ⟨_, rfl, FlatAt.own hown, kb⟩
end Go.Proofs.Ytngmkokmomficaa
