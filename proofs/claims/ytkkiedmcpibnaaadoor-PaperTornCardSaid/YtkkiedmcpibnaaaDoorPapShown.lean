/- Package paper: Append by one law; the document's example. -/
import Derived.Test.YtkkiedmcpibnaaaDoorPapApp
import Derived.Test.YtkkiedmcpibnaaaDoorDigSame
namespace Pp
theorem frameR_x (r : List UInt8) : ∃ x n, frameR r = (x, n) ∧ x.length ≤ 70000 ∧ ((r.length ≤ 65536 ∧ x = frm r ∧ n = 0) ∨ (¬ r.length ≤ 65536 ∧ x = [] ∧ n = 4)) := by
  by_cases h : r.length ≤ 65536
  · exact ⟨frm r, 0, by rw [frameR, if_pos h], by have := (frm_len r).2; omega, .inl ⟨h, rfl, rfl⟩⟩
  · exact ⟨[], 4, by rw [frameR, if_neg h], by simp, .inr ⟨h, rfl, rfl⟩⟩
end Pp
namespace Go.Proofs.YtkkiedmcpibnaaaDoor
open Go.RowKit
set_option maxRecDepth 100000
theorem appendR_big {p : Pp.P} {r : List UInt8} (h : ¬ r.length ≤ 65536) : Pp.appendR p r = (p, 4) := by rw [Pp.appendR, if_pos h]
theorem appendR_off {p : Pp.P} {r : List UInt8} (h : r.length ≤ 65536) (ho : p.2.2.2 = true) : Pp.appendR p r = (p, 6) := by rw [Pp.appendR, if_neg (by simpa using h), if_pos ho]
theorem appendR_full {p : Pp.P} {r : List UInt8} (h : r.length ≤ 65536) (ho : p.2.2.2 = false) (hf : 1048576 < p.1.length + p.2.1.length + (Pp.frm r).length) : Pp.appendR p r = (p, 5) := by rw [Pp.appendR, if_neg (by simpa using h), if_neg (by simp [ho]), if_pos hf]
theorem appendR_any {p : Pp.P} {r : List UInt8} (h : r.length ≤ 65536) (ho : p.2.2.2 = false) (hf : p.1.length + p.2.1.length + (Pp.frm r).length ≤ 1048576) (h1 : p.2.2.1 < 0) : Pp.appendR p r = ((p.1, p.2.1 ++ Pp.frm r, p.2.2.1, false), 0) := by rw [Pp.appendR, if_neg (by simpa using h), if_neg (by simp [ho]), if_neg (by omega), if_pos h1]
theorem appendR_torn {p : Pp.P} {r : List UInt8} {n : Nat} (h : r.length ≤ 65536) (ho : p.2.2.2 = false) (hf : p.1.length + p.2.1.length + (Pp.frm r).length ≤ 1048576) (h1 : p.2.2.1 = (n : Int)) (h2 : n < (Pp.frm r).length) : Pp.appendR p r = ((p.1, p.2.1 ++ (Pp.frm r).take n, 0, true), 6) := by rw [Pp.appendR, if_neg (by simpa using h), if_neg (by simp [ho]), if_neg (by omega), if_neg (by omega), if_pos (by omega), h1]; rfl
theorem appendR_fits {p : Pp.P} {r : List UInt8} {n : Nat} (h : r.length ≤ 65536) (ho : p.2.2.2 = false) (hf : p.1.length + p.2.1.length + (Pp.frm r).length ≤ 1048576) (h1 : p.2.2.1 = (n : Int)) (h2 : (Pp.frm r).length ≤ n) : Pp.appendR p r = ((p.1, p.2.1 ++ Pp.frm r, (n : Int) - ((Pp.frm r).length : Int), false), 0) := by rw [Pp.appendR, if_neg (by simpa using h), if_neg (by simp [ho]), if_neg (by omega), if_neg (by omega), if_neg (by omega), h1]

theorem pappend (a b r : List UInt8) (f : Int) (o : Bool) (hl : a.length + b.length ≤ 4398046511104) (hr : r.length ≤ 140737488351232) (hf : f ≤ 9223372036854775807) (w : World) (hw : GW w) :
    Calls Tryd.prog 15 #[papV (a, b, f, o), tx r] w fun e w' => e = .returned (.tuple #[papV (Pp.appendR (a, b, f, o) r).1, .int .i64 (Pp.appendR (a, b, f, o) r).2]) ∧ Below w.heap.size w w' := by
  obtain ⟨x, n, hF, hx, ⟨h, rfl, rfl⟩ | ⟨h, rfl, rfl⟩⟩ := Pp.frameR_x r
  · cases o with
    | true => rw [appendR_off h rfl]; exact pappend_off a b _ r f hl hx hr hF w hw
    | false =>
      by_cases h1 : 1048576 < a.length + b.length + (Pp.frm r).length
      · rw [appendR_full h rfl h1]; exact pappend_full a b _ r f h1 hl hx hr hF w hw
      · by_cases h2 : f < 0
        · rw [appendR_any h rfl (by simpa using h1) h2]; exact pappend_any a b _ r f (by omega) h2 hl hx hr hF w hw
        · obtain ⟨n, rfl⟩ := Int.eq_ofNat_of_zero_le (show 0 ≤ f by omega)
          by_cases h3 : n < (Pp.frm r).length
          · rw [appendR_torn h rfl (by simpa using h1) rfl h3]; exact pappend_torn a b _ r n (by omega) h3 hl hx hr hF w hw
          · rw [appendR_fits h rfl (by simpa using h1) rfl (by omega)]; exact pappend_fits a b _ r n (by omega) (by omega) (by omega) hl hx hr hF w hw
  · rw [appendR_big h]; exact pappend_big a b _ r f o hl hx hr hF w hw
theorem pappend_eq {a b r : List UInt8} {f : Int} {o : Bool} {R : Pp.P × Nat} (h : Pp.appendR (a, b, f, o) r = R) (hl : a.length + b.length ≤ 4398046511104) (hr : r.length ≤ 140737488351232) (hf : f ≤ 9223372036854775807) (w : World) (hw : GW w) :
    Calls Tryd.prog 15 #[papV (a, b, f, o), tx r] w fun e w' => e = .returned (.tuple #[papV R.1, .int .i64 R.2]) ∧ Below w.heap.size w w' := h ▸ pappend a b r f o hl hr hf w hw
theorem rappend (a b r : List UInt8) (f : Int) (o : Bool) (hl : a.length + b.length ≤ 4398046511104) (hr : r.length ≤ 140737488351232) (hf : f ≤ 9223372036854775807) (w : World) :
    Calls Tryd.prog 16 #[papV (a, b, f, o), tx r] w fun e w' => e = .returned (.tuple #[papV (Pp.appendR (a, b, f, o) r).1, .int .i64 (Pp.appendR (a, b, f, o) r).2]) ∧ Below w.heap.size w w' := by
  obtain ⟨x, n, hF, hx, ⟨h, rfl, rfl⟩ | ⟨h, rfl, rfl⟩⟩ := Pp.frameR_x r
  · cases o with
    | true => rw [appendR_off h rfl]; exact rappend_off a b _ r f hl hx hr hF w
    | false =>
      by_cases h1 : 1048576 < a.length + b.length + (Pp.frm r).length
      · rw [appendR_full h rfl h1]; exact rappend_full a b _ r f h1 hl hx hr hF w
      · by_cases h2 : f < 0
        · rw [appendR_any h rfl (by simpa using h1) h2]; exact rappend_any a b _ r f (by omega) h2 hl hx hr hF w
        · obtain ⟨n, rfl⟩ := Int.eq_ofNat_of_zero_le (show 0 ≤ f by omega)
          by_cases h3 : n < (Pp.frm r).length
          · rw [appendR_torn h rfl (by simpa using h1) rfl h3]; exact rappend_torn a b _ r n (by omega) h3 hl hx hr hF w
          · rw [appendR_fits h rfl (by simpa using h1) rfl (by omega)]; exact rappend_fits a b _ r n (by omega) (by omega) (by omega) hl hx hr hF w
  · rw [appendR_big h]; exact rappend_big a b _ r f o hl hx hr hF w
theorem rappend_eq {a b r : List UInt8} {f : Int} {o : Bool} {R : Pp.P × Nat} (h : Pp.appendR (a, b, f, o) r = R) (hl : a.length + b.length ≤ 4398046511104) (hr : r.length ≤ 140737488351232) (hf : f ≤ 9223372036854775807) (w : World) :
    Calls Tryd.prog 16 #[papV (a, b, f, o), tx r] w fun e w' => e = .returned (.tuple #[papV R.1, .int .i64 R.2]) ∧ Below w.heap.size w w' := h ▸ rappend a b r f o hl hr hf w
theorem psync_eq {a b : List UInt8} {f : Int} {o : Bool} {R : Pp.P × Nat} (h : Pp.syncR (a, b, f, o) = R) (hl : a.length + b.length ≤ 9223372036854775807) (w : World) :
    Calls Tryd.prog 17 #[papV (a, b, f, o)] w fun e w' => e = .returned (.tuple #[papV R.1, .int .i64 R.2]) ∧ Below w.heap.size w w' := h ▸ psync a b f o hl w
theorem rsync_eq {a b : List UInt8} {f : Int} {o : Bool} {R : Pp.P × Nat} (h : Pp.syncR (a, b, f, o) = R) (hl : a.length + b.length ≤ 9223372036854775807) (w : World) :
    Calls Tryd.prog 18 #[papV (a, b, f, o)] w fun e w' => e = .returned (.tuple #[papV R.1, .int .i64 R.2]) ∧ Below w.heap.size w w' := h ▸ rsync a b f o hl w
theorem parm_eq {a b : List UInt8} {f k : Int} {o : Bool} {R : Pp.P} (h : Pp.armR (a, b, f, o) k = R) (w : World) :
    Calls Tryd.prog 23 #[papV (a, b, f, o), .int .i64 k] w fun e w' => e = .returned (papV R) ∧ Below w.heap.size w w' := h ▸ parm a b f k o w
theorem rarm_eq {a b : List UInt8} {f k : Int} {o : Bool} {R : Pp.P} (h : Pp.armR (a, b, f, o) k = R) (w : World) :
    Calls Tryd.prog 24 #[papV (a, b, f, o), .int .i64 k] w fun e w' => e = .returned (papV R) ∧ Below w.heap.size w w' := h ▸ rarm a b f k o w
theorem pcrash_eq {a b s t : List UInt8} {rs : List (List UInt8)} {f k : Int} {o : Bool} (hR : Pp.Rd (a ++ b.take (Pp.keepN b.length k)) rs t) (hs : Pp.frs rs = s) (hl : a.length + b.length ≤ 4398046511104) (w : World) (hg : GW w) :
    Calls Tryd.prog 21 #[papV (a, b, f, o), .int .i64 k] w fun e w' => e = .returned (papV (s, [], -1, false)) ∧ Below w.heap.size w w' := hs ▸ pcrash f o k hR hl w hg
theorem rcrash_eq {a b s t : List UInt8} {rs : List (List UInt8)} {f k : Int} {o : Bool} (hR : Pp.Rd (a ++ b.take (Pp.keepN b.length k)) rs t) (hs : Pp.frs rs = s) (hl : a.length + b.length ≤ 4398046511104) (w : World) :
    Calls Tryd.prog 22 #[papV (a, b, f, o), .int .i64 k] w fun e w' => e = .returned (papV (s, [], -1, false)) ∧ Below w.heap.size w w' := hs ▸ rcrash f o k hR hl w

theorem same_eqP {va vb : Value} {a b : List (List UInt8)} {r : Bool} (h : (a == b) = r) (w : World) (ha : TxAt w va a) (hb : TxAt w vb b) (la : a.length ≤ 140737488351232) :
    Calls Tryd.prog 14 #[va, vb] w fun e w' => e = .returned (.bool r) ∧ ∃ n, w' = w.drewN n := h ▸ same_any va vb a b w ha hb la
theorem rd_nil : Pp.Rd [] [] [] := ⟨rfl, by simp, Pp.take1_nil⟩
theorem rd_one' {r : List UInt8} (h : r.length ≤ 65536) : Pp.Rd (Pp.frm r) [r] [] := ⟨by simp [Pp.frs], by simpa using h, Pp.take1_nil⟩
theorem frm_ab : (Pp.frm [97, 98]).length = 8 := by rw [Pp.frm, List.length_append, Pp.chk_len]; rfl

set_option maxHeartbeats 4000000 in
theorem papShown (w : World) (hg : GW w) :
    Calls Tryd.prog 9 #[] w fun e w' => e = .returned (.bool true) ∧ Below w.heap.size w w' := by
  have h8 := frm_ab
  have hA : Pp.appendR ([], [], -1, false) [97, 98] = (([], Pp.frm [97, 98], -1, false), 0) := appendR_any (p := ([], [], -1, false)) (by simp) rfl (by simp [h8]) (by simp)
  obtain ⟨x, hx⟩ : ∃ x, Pp.frm [97, 98] = x := ⟨_, rfl⟩
  have k7 : Pp.keepN x.length 7 = 7 := by rw [← hx, h8]; rfl
  have k8 : Pp.keepN x.length 8 = 8 := by rw [← hx, h8]; rfl
  have c7 : Pp.Rd ([] ++ x.take (Pp.keepN x.length 7)) [] (x.take 7) := by rw [k7, ← hx]; exact ⟨rfl, by simp, Pp.take1_cut (by simp) (by rw [h8]; omega)⟩
  have c8 : Pp.Rd ([] ++ x.take (Pp.keepN x.length 8)) [[97, 98]] [] := by
    rw [k8, ← hx, List.take_of_length_le (by rw [h8]; omega)]
    exact rd_one' (by simp)
  have r8 : Pp.Rd (x ++ []) [[97, 98]] [] := by rw [← hx, List.append_nil]; exact rd_one' (by simp)
  rw [hx] at hA h8
  have H1 := Lib.hid (pappend_eq hA (by simp) (by simp) (by omega))
  have H2 := Lib.hid (fun W hW => pcrash_eq (f := -1) (o := false) (s := []) c7 rfl (by simp [h8]) W hW)
  have H3 := Lib.hid (fun W hW => pcrash_eq (f := -1) (o := false) c8 (by rw [Pp.frs_one, hx]) (by simp [h8]) W hW)
  have H4 := Lib.hid (fun W hW => precords (a := []) (b := []) (-1) false rd_nil (by simp) W hW)
  have H5 := Lib.hid (fun W hW => precords (a := x) (b := []) (-1) false r8 (by simp [h8]) W hW)
  have HG := Lib.hid hg
  have L8 := h8
  clear hA hx k7 k8 c7 c8 r8 hg
  go_enter Tryd.func9, Tryd.ntmps9
  go_wp2_with fail
  refine (H1.out _ HG.out).mono ?_
  rintro e w1 ⟨rfl, g1⟩
  have B1 := Lib.hid (Blk.new w1 34 [tx [], tx x, .int .i64 (-1), .bool false])
  have G1 := Lib.hid (g1.trans (((Below.refl _ _).alloc (Nat.le_refl _) (.cells #[tx [], tx x, .int .i64 (-1), .bool false] 34)).mono g1.size))
  have c0 := B1.out.cell 0 rfl
  have c1 := B1.out.cell 1 rfl
  have c2 := B1.out.cell 2 rfl
  have c3 := B1.out.cell 3 rfl
  clear g1
  go_wp2_with fail
  refine (H2.out _ (HG.out.below G1.out)).mono ?_
  rintro e w2 ⟨rfl, g2⟩
  have B2 := Lib.hid (B1.out.kept g2)
  have G2 := Lib.hid (grow_trans G1.out g2)
  clear g2 c0 c1 c2 c3
  go_wp2_with fail
  refine (H4.out _ (HG.out.below G2.out)).mono ?_
  rintro e w3 ⟨v, rfl, hv, g3⟩
  obtain ⟨m1, m2, rfl⟩ := hv.len
  have B3 := Lib.hid (B2.out.kept g3)
  have G3 := Lib.hid (grow_trans G2.out g3)
  clear g3 hv
  have c0 := B3.out.cell 0 rfl
  have c1 := B3.out.cell 1 rfl
  have c2 := B3.out.cell 2 rfl
  have c3 := B3.out.cell 3 rfl
  go_wp2_with fail
  refine (H3.out _ (HG.out.below G3.out)).mono ?_
  rintro e w4 ⟨rfl, g4⟩
  have B4 := Lib.hid (B3.out.kept g4)
  have G4 := Lib.hid (grow_trans G3.out g4)
  clear g4 c0 c1 c2 c3
  go_wp2_with fail
  refine (H5.out _ (HG.out.below G4.out)).mono ?_
  rintro e w5 ⟨v, rfl, hv, g5⟩
  have B5 := Lib.hid (B4.out.kept g5)
  have G5 := Lib.hid (grow_trans G4.out g5)
  rcases hv with ⟨a, cap, -, h0⟩ | ⟨b5, o5, m4, rfl, hc⟩
  · exact absurd h0 (by simp)
  have k0 := hc 0 (by simp)
  simp only [List.getElem_cons_zero, Nat.add_zero] at k0
  have c1 := B5.out.cell 1 rfl
  clear g5 hc
  go_wp2
  go_ret
  exact ⟨rfl, G5.out⟩
end Go.Proofs.YtkkiedmcpibnaaaDoor
