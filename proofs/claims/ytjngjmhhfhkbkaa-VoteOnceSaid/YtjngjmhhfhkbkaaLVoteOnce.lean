/- VoteOnce: the walk. (Written by gen-lvonce.py.) -/
import Derived.Test.YtjngjmhhfhkbkaaVotIface
import Derived.Test.YtjngjmhhfhkbkaaVotOpen
namespace Go.Proofs.Ytjngjmhhfhkbkaa
open Go.RowKit Go.ChangeShapes Go.WideShapes Go.ChangeAt

abbrev Ask := Vt.Bl × Int
/-- What is asked for, where it lies. -/
def AskAt (w : World) (v : Value) (l : List Ask) : Prop := (l = [] ∧ ∃ a cap, v = .slice a 0 cap) ∨ ∃ b off cap, v = .slice (some ⟨b, off, none⟩) l.length cap ∧
  ∀ k (h : k < l.length), w.cell? ⟨b, off + k * 4, none⟩ = some (iv l[k].1.1) ∧ w.cell? ⟨b, off + k * 4 + 1, none⟩ = some (iv l[k].1.2.1) ∧ w.cell? ⟨b, off + k * 4 + 2, none⟩ = some (tx l[k].1.2.2) ∧ w.cell? ⟨b, off + k * 4 + 3, none⟩ = some (iv l[k].2)

theorem elem_ask {H : Type} {enc : TypeId × Value → H} {W : World} (n : Nat) (cs : List Value) (x : DataW H × List MemPlace) (hl : cs.length = 4) (h : DataW.trod enc Try.prog W 0 (fun _ => true) true n 40 cs = some x) :
    ∃ a : Ask, (fun (a : Ask) cs (_ : DataW H) => cs = [iv a.1.1, iv a.1.2.1, tx a.1.2.2, iv a.2] ∧ a.2 ≤ 9223372036854775807) a cs x.1 := by
  obtain ⟨y0, y1, m, _, _, h0, h1⟩ := trod_struct2 Try.underlying40 h
  have k1 : Try.prog.cellsOf 3 = 1 := by kernel_rfl
  have k3 : Try.prog.cellsOf 24 = 3 := by kernel_rfl
  match cs, hl with
  | [a, b, c, d], _ =>
    have e0 : DataW.trod enc Try.prog W 0 (fun _ => true) true m 24 [a, b, c] = some y0 := by simpa [k3] using h0
    have e1 : DataW.trod enc Try.prog W 0 (fun _ => true) true m 3 [d] = some y1 := by simpa [k1] using h1
    obtain ⟨s, hs⟩ := elem_ballot _ _ _ rfl e0
    obtain ⟨z, _, hz, rfl, _⟩ := trod_i64 Try.underlying3 e1
    simp only [List.cons.injEq, and_true] at hs
    obtain ⟨rfl, rfl, rfl⟩ := hs
    exact ⟨(s, z), rfl, hz⟩

theorem trod_asks {H : Type} {enc : TypeId × Value → H} {W : World} {n : Nat} {v : Value} {y : DataW H × List MemPlace} (h : DataW.trod enc Try.prog W 0 (fun _ => true) true n 38 [v] = some y)
    (hsz : (DataW.weights Try.prog 38 y.1).all (· ≤ reachBytes) = true) : ∃ l : List Ask, AskAt W v l ∧ l.length ≤ 4398046510976 := by
  rcases open_rows (K := 4) (fun (a : Ask) cs (_ : DataW H) => cs = [iv a.1.1, iv a.1.2.1, tx a.1.2.2, iv a.2] ∧ a.2 ≤ 9223372036854775807) Try.underlying38 (by kernel_rfl) (by decide) elem_ask h with ⟨rfl, _⟩ | ⟨ad, cap, l, D, sp, rfl, h1, h2, hs, hy, hD, hc⟩
  · exact ⟨[], .inl ⟨rfl, _, _, rfl⟩, by simp⟩
  · rw [hy] at hsz
    have hb := open_len (B := 40) Try.underlying38 (by kernel_rfl) hsz
    refine ⟨l, ?_, by omega⟩
    cases l with
    | nil => exact .inl ⟨rfl, _, _, rfl⟩
    | cons x l =>
      obtain ⟨b, off, spot⟩ := ad
      obtain rfl : spot = none := hs (by simp at h1; omega)
      refine .inr ⟨b, off, cap, rfl, fun k hk => ?_⟩
      obtain ⟨cs, _, hq, hcell⟩ := hc k hk (by rw [hD]; exact hk)
      obtain ⟨hq, _⟩ := hq
      subst hq
      have ha : ∀ j, (⟨b, off, none⟩ : Addr).add j = ⟨b, off + j, none⟩ := fun j => by unfold Addr.add; split <;> simp_all
      have c0 := hcell 0 _ rfl
      have c1 := hcell 1 _ rfl
      have c2 := hcell 2 _ rfl
      have c3 := hcell 3 _ rfl
      rw [ha] at c0 c1 c2 c3
      exact ⟨c0, c1, c2, c3⟩

/-- Votes of a block of their own lie as they did behind an append to another row. -/
theorem balat_grown {w w3 : World} {u gv : Value} {M : List Vt.Bl} {N : Nat} {o : Obj} (h : BalNew N w u M) (hrow : ∀ k, gv.ownBlock = some k → k < N) (hg : (w.alloc o).grownBy w3 gv.ownBlock) : BalAt w3 u M := by
  obtain ⟨h1, h2⟩ := h
  rcases h1 with h1 | ⟨b, off, cap, rfl, h3, h4, hc⟩
  · exact .inl h1
  · refine .inr ⟨b, off, cap, rfl, h3, h4, fun k hk => ?_⟩
    obtain ⟨c1, c2, c3⟩ := hc k hk
    have hlt : b < w.heap.size := World.block_lt_of_cell? w _ c1
    have hN := h2 b rfl
    have hb : w3.heap[b]? = w.heap[b]? := by
      rw [hg.block b (by simp; omega) (fun e => by have := hrow b e.symm; omega)]
      exact Below.heap_alloc _ _ _ hlt
    exact ⟨(World.cell?_of_block (a := ⟨b, off + k * 3, none⟩) hb).trans c1, (World.cell?_of_block (a := ⟨b, off + k * 3 + 1, none⟩) hb).trans c2, (World.cell?_of_block (a := ⟨b, off + k * 3 + 2, none⟩) hb).trans c3⟩

set_option maxHeartbeats 16000000 in
set_option maxRecDepth 100000 in
theorem voteOnce_core (v : Value) (l : List Ask) (W : World) (hv : AskAt W v l) (hl : l.length ≤ 4398046510976) :
    Calls Try.prog 5 #[v] W fun e W' => e = .returned (.bool true) ∧ Below W.heap.size W W' := by
  obtain ⟨i0, hi, hz0, hz1, hz2⟩ := info_parts info_ballot
  have hvl : ∃ a cap, v = .slice a l.length cap := by
    rcases hv with ⟨rfl, a, cap, rfl⟩ | ⟨b, off, cap, rfl, _⟩
    · exact ⟨_, _, rfl⟩
    · exact ⟨_, _, rfl⟩
  obtain ⟨va, vc, rfl⟩ := hvl
  have HV := Lib.hid hv
  clear hv
  go_enter Try.func5, Try.ntmps5
  go_wp2_with fail
  refine (vtShown _).mono ?_
  rintro e w1 ⟨rfl, g1⟩
  have G1 := Lib.hid g1
  clear g1
  go_wp2_with fail
  go_loopw [4, 5, 6, 7, 8, 9, 10] (fun vv gv lv iv' _ _ _ wr => ∃ (k : Nat) (votes G : List Vt.Bl) (low : Int), iv' = .int .i64 k ∧ lv = .int .i64 low ∧ k ≤ l.length ∧ 0 ≤ low ∧ low ≤ 1100000000000 ∧ BalAt wr vv votes ∧ wr.ownsRow W.heap.size 24 3 gv G.length (ballots G) ∧
      Vt.Inv votes low G ∧ votes.length ≤ k ∧ G.length ≤ k ∧ Below W.heap.size W wr) (fun _ _ _ i _ _ _ _ => l.length - (intOf i).toNat)
  case atStart => exact ⟨0, [], [], 0, rfl, rfl, by omega, by omega, by omega, .inl ⟨none, rfl, rfl⟩, World.ownsRow_nil _ _ _ _, Vt.Inv.start 0, by simp, by simp, G1.out⟩
  case round =>
    clear G1
    obtain ⟨k, votes, G, low, rfl, rfl, hk, hlo, hhi, hvo, hgo, hinv, hlv, hlg, hb⟩ := hrel
    have HVO := Lib.hid hvo
    have HO := Lib.hid hgo
    have HI := Lib.hid hinv
    have HB := Lib.hid hb
    have hszr := hb.size
    clear hvo hgo hinv hb
    by_cases hlt : k < l.length
    · rcases HV.out with ⟨rfl, _⟩ | ⟨b, off, cap, hve, hc⟩
      · simp at hlt
      simp only [Value.slice.injEq, true_and] at hve
      obtain ⟨rfl, rfl⟩ := hve
      obtain ⟨d1, d2, d3, d4⟩ := hc k hlt
      obtain ⟨y, hy⟩ : ∃ y, l[k] = y := ⟨_, rfl⟩
      rw [hy] at d1 d2 d3 d4
      clear hy hc
      obtain ⟨⟨x, r, t⟩, up⟩ := y
      simp only [iv] at d1 d2 d3 d4
      have d1' := Lib.hid d1
      have d2' := Lib.hid d2
      have d3' := Lib.hid d3
      have d4' := Lib.hid d4
      have c1 := below_cell HB.out d1
      have c2 := below_cell HB.out d2
      have c3 := below_cell HB.out d3
      clear d1 d2 d3 d4
      obtain ⟨M, c, hm⟩ : ∃ M c, Vt.give votes low (x, r, t) = (M, c) := ⟨_, _, rfl⟩
      have hml : M.length ≤ k + 1 := by have := give_len votes low (x, r, t); rw [hm] at this; simp only at this; omega
      have HM := Lib.hid hm
      clear hm
      go_wp2_with fail
      refine (pgive_new (s := (x, r, t)) HM.out _ HVO.out (by omega)).mono ?_
      rintro e w2 ⟨u2, rfl, hu2, h2⟩
      have HU2 := Lib.hid hu2
      have HB2 := Lib.hid (grow_trans HB.out h2)
      have hsz2 := HB2.out.size
      have HO2 := Lib.hid (own_below HO.out h2)
      replace c1 := below_cell h2 c1
      replace c2 := below_cell h2 c2
      replace c3 := below_cell h2 c3
      have c4 := below_cell HB2.out d4'.out
      have HFAR := Lib.hid (fun k hk => (HO.out.lt k hk).2)
      clear hu2 h2 HVO HO HB hszr
      by_cases hc : c = 0
      · subst hc
        have t0 : ((0 : Int) == 0) = true := by decide
        have hinv := HI.out.give (x, r, t) (by rw [HM.out])
        rw [HM.out] at hinv
        have HI2 := Lib.hid hinv
        clear hinv HI
        have HNW := Lib.hid (new_cells w2 [.int .i64 x, .int .i64 r, tx t] 24)
        go_wp2_with (at_builtin; refine wpList_append_own _ rfl _ _ 22 rfl W.heap.size 24 i0 (.agg #[.int .i64 0, .int .i64 0, .string ⟨#[]⟩]) 3 32 Try.underlying22 hi hz0 hz1 hz2 rfl (by decide) _ _ _ rfl (HO2.out.alloc _) ⟨w2.heap.size, 0, none⟩ 1 1 [.int .i64 x, .int .i64 r, tx t] rfl rfl ?c1 ?c2 ?c3 ?c4 ?c5 ?_)
        case c1 => exact HNW.out
        case c2 => intro u hu; simp at hu; rcases hu with rfl | rfl | rfl <;> rfl
        case c3 => unfold maxLen; omega
        case c4 => omega
        case c5 => simp; omega
        intro gv3 w3 hown3 hg _
        have hb3 : Below W.heap.size W w3 := (HB2.out.alloc hsz2 _).grown hg (by simp; omega) (fun k hk => (HO2.out.lt k hk).1)
        have HO3 := Lib.hid (show w3.ownsRow W.heap.size 24 3 gv3 (G ++ [(x, r, t)]).length (ballots (G ++ [(x, r, t)])) by
          rw [ballots_snoc, List.length_append]
          exact hown3)
        have HB3 := Lib.hid hb3
        have hsz3 := hb3.size
        have HU3 := Lib.hid (balat_grown HU2.out HFAR.out hg)
        clear hg hb3 hown3 HNW
        have c1 := below_cell HB3.out d1'.out
        have c2 := below_cell HB3.out d2'.out
        have c3 := below_cell HB3.out d3'.out
        have c4 := below_cell HB3.out d4'.out
        clear HU2 HO2 HB2 hsz2 HFAR
        by_cases q1 : 0 < up
        · have t1 : decide (0 < up) = true := decide_eq_true q1
          by_cases q2 : up < 1000000
          · have t2 : decide (up < 1000000) = true := decide_eq_true q2
            by_cases q3 : low < 1099511627776
            · have t3 : decide (low < 1099511627776) = true := decide_eq_true q3
              have hw := (IntWalk.i64_in (low + up) ⟨by omega, by omega⟩ : IntKind.i64.wrap (low + up) = low + up)
              obtain ⟨f, hf⟩ : ∃ f, Vt.floor M (low + up) = f := ⟨_, rfl⟩
              have hfl : f.length ≤ M.length := by rw [← hf]; exact floor_len M _
              have HFI := Lib.hid (show Vt.Inv f (low + up) (G ++ [(x, r, t)]) by rw [← hf]; exact HI2.out.floor up (by omega))
              have HF := Lib.hid hf
              clear hf
              go_wp2_with fail
              refine (pfloor_eq HF.out _ HU3.out (by omega)).mono ?_
              rintro e w5 ⟨u5, rfl, hu5, h5⟩
              have HU5 := Lib.hid hu5
              have HO5 := Lib.hid (own_below HO3.out h5)
              have HB5 := Lib.hid (grow_trans HB3.out h5)
              clear hu5 h5
              go_wp2_with fail
              refine (rright_eq ((Vt.right_iff _).2 HFI.out.right) _ HU5.out.flat (by omega)).mono ?_
              rintro e w6 ⟨rfl, h6⟩
              have HU6 := Lib.hid (HU5.out.below h6)
              have HO6 := Lib.hid (own_below HO5.out h6)
              have HB6 := Lib.hid (grow_trans HB5.out h6)
              clear h6
              go_wp2
              go_roundw
              case rel => exact ⟨k + 1, f, (G ++ [(x, r, t)]), (low + up), by go_num, rfl, by omega, by omega, by omega, HU6.out, HO6.out, HFI.out, by omega, by first | omega | (simp; omega), HB6.out⟩
              case measure => simp [intOf]; omega
            · have t3 : decide (low < 1099511627776) = false := decide_eq_false q3
              clear q3
              go_wp2_with fail
              refine (rright_eq ((Vt.right_iff _).2 HI2.out.right) _ HU3.out.flat (by omega)).mono ?_
              rintro e w6 ⟨rfl, h6⟩
              have HU6 := Lib.hid (HU3.out.below h6)
              have HO6 := Lib.hid (own_below HO3.out h6)
              have HB6 := Lib.hid (grow_trans HB3.out h6)
              clear h6
              go_wp2
              go_roundw
              case rel => exact ⟨k + 1, M, (G ++ [(x, r, t)]), low, by go_num, rfl, by omega, by omega, by omega, HU6.out, HO6.out, HI2.out, hml, by first | omega | (simp; omega), HB6.out⟩
              case measure => simp [intOf]; omega
          · have t2 : decide (up < 1000000) = false := decide_eq_false q2
            clear q2
            go_wp2_with fail
            refine (rright_eq ((Vt.right_iff _).2 HI2.out.right) _ HU3.out.flat (by omega)).mono ?_
            rintro e w6 ⟨rfl, h6⟩
            have HU6 := Lib.hid (HU3.out.below h6)
            have HO6 := Lib.hid (own_below HO3.out h6)
            have HB6 := Lib.hid (grow_trans HB3.out h6)
            clear h6
            go_wp2
            go_roundw
            case rel => exact ⟨k + 1, M, (G ++ [(x, r, t)]), low, by go_num, rfl, by omega, by omega, by omega, HU6.out, HO6.out, HI2.out, hml, by first | omega | (simp; omega), HB6.out⟩
            case measure => simp [intOf]; omega
        · have t1 : decide (0 < up) = false := decide_eq_false q1
          clear q1
          go_wp2_with fail
          refine (rright_eq ((Vt.right_iff _).2 HI2.out.right) _ HU3.out.flat (by omega)).mono ?_
          rintro e w6 ⟨rfl, h6⟩
          have HU6 := Lib.hid (HU3.out.below h6)
          have HO6 := Lib.hid (own_below HO3.out h6)
          have HB6 := Lib.hid (grow_trans HB3.out h6)
          clear h6
          go_wp2
          go_roundw
          case rel => exact ⟨k + 1, M, (G ++ [(x, r, t)]), low, by go_num, rfl, by omega, by omega, by omega, HU6.out, HO6.out, HI2.out, hml, by first | omega | (simp; omega), HB6.out⟩
          case measure => simp [intOf]; omega
      · have t0 : (c == 0) = false := by rw [beq_eq_false_iff_ne]; exact hc
        have href := Vt.refused votes low (x, r, t) (by rw [HM.out]; exact hc)
        rw [HM.out] at href
        simp only at href
        subst href
        have HU3 := Lib.hid HU2.out.1
        clear hc HU2 HFAR
        by_cases q1 : 0 < up
        · have t1 : decide (0 < up) = true := decide_eq_true q1
          by_cases q2 : up < 1000000
          · have t2 : decide (up < 1000000) = true := decide_eq_true q2
            by_cases q3 : low < 1099511627776
            · have t3 : decide (low < 1099511627776) = true := decide_eq_true q3
              have hw := (IntWalk.i64_in (low + up) ⟨by omega, by omega⟩ : IntKind.i64.wrap (low + up) = low + up)
              obtain ⟨f, hf⟩ : ∃ f, Vt.floor M (low + up) = f := ⟨_, rfl⟩
              have hfl : f.length ≤ M.length := by rw [← hf]; exact floor_len M _
              have HFI := Lib.hid (show Vt.Inv f (low + up) G by rw [← hf]; exact HI.out.floor up (by omega))
              have HF := Lib.hid hf
              clear hf
              go_wp2_with fail
              refine (pfloor_eq HF.out _ HU3.out (by omega)).mono ?_
              rintro e w5 ⟨u5, rfl, hu5, h5⟩
              have HU5 := Lib.hid hu5
              have HO5 := Lib.hid (own_below HO2.out h5)
              have HB5 := Lib.hid (grow_trans HB2.out h5)
              clear hu5 h5
              go_wp2_with fail
              refine (rright_eq ((Vt.right_iff _).2 HFI.out.right) _ HU5.out.flat (by omega)).mono ?_
              rintro e w6 ⟨rfl, h6⟩
              have HU6 := Lib.hid (HU5.out.below h6)
              have HO6 := Lib.hid (own_below HO5.out h6)
              have HB6 := Lib.hid (grow_trans HB5.out h6)
              clear h6
              go_wp2
              go_roundw
              case rel => exact ⟨k + 1, f, G, (low + up), by go_num, rfl, by omega, by omega, by omega, HU6.out, HO6.out, HFI.out, by omega, by first | omega | (simp; omega), HB6.out⟩
              case measure => simp [intOf]; omega
            · have t3 : decide (low < 1099511627776) = false := decide_eq_false q3
              clear q3
              go_wp2_with fail
              refine (rright_eq ((Vt.right_iff _).2 HI.out.right) _ HU3.out.flat (by omega)).mono ?_
              rintro e w6 ⟨rfl, h6⟩
              have HU6 := Lib.hid (HU3.out.below h6)
              have HO6 := Lib.hid (own_below HO2.out h6)
              have HB6 := Lib.hid (grow_trans HB2.out h6)
              clear h6
              go_wp2
              go_roundw
              case rel => exact ⟨k + 1, M, G, low, by go_num, rfl, by omega, by omega, by omega, HU6.out, HO6.out, HI.out, hml, by first | omega | (simp; omega), HB6.out⟩
              case measure => simp [intOf]; omega
          · have t2 : decide (up < 1000000) = false := decide_eq_false q2
            clear q2
            go_wp2_with fail
            refine (rright_eq ((Vt.right_iff _).2 HI.out.right) _ HU3.out.flat (by omega)).mono ?_
            rintro e w6 ⟨rfl, h6⟩
            have HU6 := Lib.hid (HU3.out.below h6)
            have HO6 := Lib.hid (own_below HO2.out h6)
            have HB6 := Lib.hid (grow_trans HB2.out h6)
            clear h6
            go_wp2
            go_roundw
            case rel => exact ⟨k + 1, M, G, low, by go_num, rfl, by omega, by omega, by omega, HU6.out, HO6.out, HI.out, hml, by first | omega | (simp; omega), HB6.out⟩
            case measure => simp [intOf]; omega
        · have t1 : decide (0 < up) = false := decide_eq_false q1
          clear q1
          go_wp2_with fail
          refine (rright_eq ((Vt.right_iff _).2 HI.out.right) _ HU3.out.flat (by omega)).mono ?_
          rintro e w6 ⟨rfl, h6⟩
          have HU6 := Lib.hid (HU3.out.below h6)
          have HO6 := Lib.hid (own_below HO2.out h6)
          have HB6 := Lib.hid (grow_trans HB2.out h6)
          clear h6
          go_wp2
          go_roundw
          case rel => exact ⟨k + 1, M, G, low, by go_num, rfl, by omega, by omega, by omega, HU6.out, HO6.out, HI.out, hml, by first | omega | (simp; omega), HB6.out⟩
          case measure => simp [intOf]; omega
    · obtain rfl : k = l.length := by omega
      have HG := Lib.hid (FlatAt.own HO.out)
      have HOnce := Lib.hid HI.out.once
      clear HVO HO HI
      obtain ⟨ga, gc, hgl⟩ := HG.out.len (n := G.length) (ballots_len G) (by omega)
      subst hgl
      have hGb : G.length ≤ 4398046510976 := by omega
      go_wp2_with fail
      go_loopw [11, 12] (fun iv' _ w' => ∃ (i q : Nat), iv' = .int .i64 i ∧ i ≤ G.length ∧ w' = wr.drewN q) (fun i _ _ => G.length - (intOf i).toNat)
      case atStart => exact ⟨0, 0, rfl, by omega, rfl⟩
      case round =>
        obtain ⟨i, q, rfl, hi', rfl⟩ := hrel
        by_cases hlt : i < G.length
        · go_wp2_with fail
          go_loopw [12] (fun jv w' => ∃ (j q' : Nat), jv = .int .i64 j ∧ j ≤ i ∧ w' = wr.drewN q') (fun j _ => i - (intOf j).toNat)
          case atStart => exact ⟨0, q, rfl, by omega, rfl⟩
          case round =>
            obtain ⟨j, q', rfl, hj, rfl⟩ := hrel
            by_cases hlt2 : j < i
            · have hgf := HG.out
              rcases flat_ballots hgf (Below.refl _ _) with ⟨hge, _⟩ | ⟨_, b, off, cap, hue, hc⟩
              · rw [hge] at hlt; simp at hlt
              simp only [Value.slice.injEq, true_and] at hue
              obtain ⟨rfl, rfl⟩ := hue
              obtain ⟨c1, c2, c3⟩ := hc i hlt
              obtain ⟨d1, d2, d3⟩ := hc j (by omega)
              have honce := HOnce.out G[i] (List.getElem_mem hlt) (G[j]'(by omega)) (List.getElem_mem _)
              obtain ⟨y, hy⟩ : ∃ y, G[i] = y := ⟨_, rfl⟩
              obtain ⟨z, hz⟩ : ∃ z, G[j]'(by omega) = z := ⟨_, rfl⟩
              rw [hy] at c1 c2 c3 honce
              rw [hz] at d1 d2 d3 honce
              clear hy hz hc hgf
              obtain ⟨x, r, t⟩ := y
              obtain ⟨x', r', t'⟩ := z
              simp only [iv] at c1 c2 c3 d1 d2 d3 honce
              have j1 : (i : Int) < (G.length : Int) := by omega
              have j2 : (j : Int) < (G.length : Int) := by omega
              have j3 : (0 : Int) ≤ (i : Int) := by omega
              have j4 : (i : Int).toNat = i := by omega
              have j5 : (0 : Int) ≤ (j : Int) := by omega
              have j6 : (j : Int).toNat = j := by omega
              have j7 : decide ((j : Int) < (i : Int)) = true := by rw [decide_eq_true_iff]; omega
              have HONE := Lib.hid honce
              clear honce
              by_cases hx : x = x'
              · by_cases hr : r = r'
                · have ht : t = t' := HONE.out hx hr
                  subst hx hr ht
                  go_wp2_with fail
                  go_quiet (fail)
                  go_wp2
                  go_roundw
                  case rel => exact ⟨j + 1, _, by go_num, hlt2, rfl⟩
                  case measure => simp [intOf]; omega
                · have e2 : (r == r') = false := by simpa using hr
                  subst hx
                  clear hr
                  go_wp2_with fail
                  go_quiet (fail)
                  go_wp2
                  go_roundw
                  case rel => exact ⟨j + 1, _, by go_num, hlt2, rfl⟩
                  case measure => simp [intOf]; omega
              · have e1 : (x == x') = false := by simpa using hx
                clear hx
                go_wp2_with fail
                go_quiet (fail)
                go_wp2
                go_roundw
                case rel => exact ⟨j + 1, _, by go_num, hlt2, rfl⟩
                case measure => simp [intOf]; omega
            · obtain rfl : j = i := by omega
              have j7 : decide ((j : Int) < (j : Int)) = false := by simp
              go_wp2
              go_roundw
              case rel => exact ⟨j + 1, _, by go_num, hlt, rfl⟩
              case measure => simp [intOf]; omega
        · obtain rfl : i = G.length := by omega
          go_wp2
          go_ret
          exact ⟨rfl, HB.out.trans ((grow_draws _ _).mono hszr)⟩

theorem voteOnce_walk {H : Type} (enc : TypeId × Value → H) (W : World) (base : Nat) (v0 : Value) (d0 : DataW H) (p0 : List MemPlace)
    (h0 : DataW.Trod enc Try.prog W 0 (fun _ => true) true 38 v0 d0 p0) (o0 : Value.okWide Try.prog W .any base 38 v0)
    (hsz : (DataW.weightsEach Try.prog [38] [d0]).all (· ≤ reachBytes) = true) :
    Calls Try.prog 5 #[v0] W fun e W' => e = .returned (.bool true) ∧ Below W.heap.size W W' := by
  simp only [DataW.weightsEach, List.all_append, Bool.and_eq_true] at hsz
  obtain ⟨a, len, cap, rfl⟩ := okWide_slice Try.underlying38 o0
  obtain ⟨n0, e0⟩ := h0
  obtain ⟨l, hv, hl⟩ := trod_asks e0 hsz.1
  exact voteOnce_core _ l W hv hl
end Go.Proofs.Ytjngjmhhfhkbkaa
