/- CrSmall, CrCheck, CrOpenA, CrShown, in one. -/
import Derived.Test.YtflmfbcjmjlkbaaDoorCertMath
import Derived.Test.YtflmfbcjmjlkbaaDoorCrA
import Derived.Test.YtflmfbcjmjlkbaaDoorVtxRBytesC
import Derived.Test.YtflmfbcjmjlkbaaDoorOpenOne
import Derived.Deep.SlicePairs
import Derived.Lib.SmallJoins
/- Package cert as it landed: letters, quorums, one who has sealed. -/
namespace Go.Proofs.YtflmfbcjmjlkbaaDoor
open Go.RowKit
set_option maxRecDepth 100000
attribute [local go_sem] ByteArray.mk_append_mk

theorem pheader (d : List UInt8) (hd : d.length ≤ 140737488351232) (w : World) : Calls Tryd.prog 10 #[tx d] w fun e w' => e = .returned (tx (Cr.hd d)) ∧ w' = w := by
  have e1 := fun W => cat_run [104] d (by simp; omega) W
  go_enter Tryd.func10, Tryd.ntmps10
  go_wp2
  go_ret
  exact ⟨rfl, rfl⟩
theorem pvote (d : List UInt8) (hd : d.length ≤ 140737488351232) (w : World) : Calls Tryd.prog 12 #[tx d] w fun e w' => e = .returned (tx (Cr.yd d)) ∧ w' = w := by
  have e1 := fun W => cat_run [121] d (by simp; omega) W
  go_enter Tryd.func12, Tryd.ntmps12
  go_wp2
  go_ret
  exact ⟨rfl, rfl⟩
theorem porigin (d : List UInt8) (hd : d.length ≤ 140737488351232) (w : World) : Calls Tryd.prog 14 #[tx d] w fun e w' => e = .returned (tx (Cr.od d)) ∧ w' = w := by
  have e1 := fun W => cat_run [111] d (by simp; omega) W
  go_enter Tryd.func14, Tryd.ntmps14
  go_wp2
  go_ret
  exact ⟨rfl, rfl⟩

/-- The contracts of layer 5 as equations. -/
theorem cwithin {v : Nat} {n : Int} {b : Bool} (h : Se.within v n = b) (hv : v < 18446744073709551616) (w : World) :
    Calls Tryd.prog 57 #[.int .u64 v, .int .i64 n] w fun e w' => e = .returned (.bool b) ∧ Below w.heap.size w w' := by
  subst h; exact (pwithin_any v n hv w).mono fun e w' hh => ⟨hh.1, by rw [hh.2]; exact Below.refl _ _⟩
theorem ccount {v c : Nat} (h : Se.count v = c) (hv : v < 18446744073709551616) (w : World) :
    Calls Tryd.prog 58 #[.int .u64 v] w fun e w' => e = .returned (.int .i64 c) ∧ Below w.heap.size w w' := by
  subst h; exact pcount_any v hv w
theorem cof {s : Value} {l : List Int} {a x : Nat} (h : Se.of l = (a, x)) (w : World) (hs : FlatAt w s 1 (ints l)) (hl : l.length ≤ 9223372036854775807) :
    Calls Tryd.prog 53 #[s] w fun e w' => e = .returned (.tuple #[.int .u64 a, .int .i64 x]) ∧ Below w.heap.size w w' :=
  (pof_any s l w hs hl).mono fun e w' hh => by rw [h] at hh; exact ⟨hh.1, by rw [hh.2]; exact Below.refl _ _⟩
theorem se_of_lt (l : List Int) : (Se.of l).1 < 18446744073709551616 := by
  have key : ∀ (l : List Int) (v : Nat), v < 18446744073709551616 → ∀ r, Se.ofL l v = some r → r < 18446744073709551616 := by
    intro l
    induction l with
    | nil => intro v hv r h; simp only [Se.ofL, Option.some.injEq] at h; omega
    | cons x l ih =>
      intro v hv r h
      by_cases hx : 1 ≤ x ∧ x ≤ 64
      · rw [Se.ofL_put _ _ _ hx] at h
        exact ih _ (Se.put_lt v x.toNat hv (by omega) (by omega)) r h
      · rw [Se.ofL_bad _ _ _ hx] at h; cases h
  unfold Se.of
  split
  · rename_i v h; exact key l 0 (by omega) v h
  · simp

set_option maxHeartbeats 1000000 in
theorem penough (n : Int) (x : Nat) (hx : x < 18446744073709551616) (n1 : -9223372036854775808 ≤ n) (n2 : n ≤ 9223372036854775807) (w : World) :
    Calls Tryd.prog 36 #[.int .i64 n, .int .u64 x] w fun e w' => e = .returned (.int .i64 (Cr.enough n x)) ∧ Below w.heap.size w w' := by
  obtain ⟨z, hz⟩ : ∃ z, Se.within x n = z := ⟨_, rfl⟩
  obtain ⟨c, hc⟩ : ∃ c, Se.count x = c := ⟨_, rfl⟩
  obtain ⟨q, hq⟩ : ∃ q, Se.quorum n = q := ⟨_, rfl⟩
  have he : Cr.enough n x = if z = true then (if (c : Int) < q then 2 else 0) else 4 := by rw [Cr.enough, hz, hc, hq]
  rw [he]
  have HZ := Lib.hid hz
  have HC := Lib.hid hc
  have HQ := Lib.hid hq
  clear he hz hc hq
  cases z with
  | false =>
    rw [if_neg (by simp)]
    go_enter Tryd.func36, Tryd.ntmps36
    go_wp2_with fail
    refine (cwithin HZ.out hx _).mono ?_
    rintro e w1 ⟨rfl, g1⟩
    go_wp2
    go_ret
    exact ⟨rfl, g1⟩
  | true =>
    rw [if_pos rfl]
    by_cases hlt : (c : Int) < q
    · rw [if_pos hlt]
      have t1 : decide ((c : Int) < q) = true := decide_eq_true hlt
      clear hlt
      go_enter Tryd.func36, Tryd.ntmps36
      go_wp2_with fail
      refine (cwithin HZ.out hx _).mono ?_
      rintro e w1 ⟨rfl, g1⟩
      go_wp2_with fail
      refine (ccount HC.out hx _).mono ?_
      rintro e w2 ⟨rfl, g2⟩
      have G2 := Lib.hid (grow_trans g1 g2)
      clear g1 g2
      go_wp2_with fail
      refine (pquorum_eq HQ.out n1 n2 _).mono ?_
      rintro e w3 ⟨rfl, rfl⟩
      go_wp2
      go_ret
      exact ⟨rfl, G2.out⟩
    · rw [if_neg hlt]
      have t1 : decide ((c : Int) < q) = false := decide_eq_false hlt
      clear hlt
      go_enter Tryd.func36, Tryd.ntmps36
      go_wp2_with fail
      refine (cwithin HZ.out hx _).mono ?_
      rintro e w1 ⟨rfl, g1⟩
      go_wp2_with fail
      refine (ccount HC.out hx _).mono ?_
      rintro e w2 ⟨rfl, g2⟩
      have G2 := Lib.hid (grow_trans g1 g2)
      clear g1 g2
      go_wp2_with fail
      refine (pquorum_eq HQ.out n1 n2 _).mono ?_
      rintro e w3 ⟨rfl, rfl⟩
      go_wp2
      go_ret
      exact ⟨rfl, G2.out⟩
theorem penough_eq {n : Int} {x r : Nat} (h : Cr.enough n x = r) (hx : x < 18446744073709551616) (n1 : -9223372036854775808 ≤ n) (n2 : n ≤ 9223372036854775807) (w : World) :
    Calls Tryd.prog 36 #[.int .i64 n, .int .u64 x] w fun e w' => e = .returned (.int .i64 r) ∧ Below w.heap.size w w' := by subst h; exact penough n x hx n1 n2 w

set_option maxHeartbeats 1000000 in
theorem psealed {b : List Bk.Sl} {t : List UInt8} {l : List Int} {a x : Nat} {r : Bool} (ho : Se.of l = (a, x)) (hr : (decide (x = 0) && Bk.all b a t) = r) (bv iv' : Value) (w : World) (hb : FlatAt w bv 2 (seals b)) (hl : b.length ≤ 140737488351232) (hi : FlatAt w iv' 1 (ints l)) (hil : l.length ≤ 9223372036854775807) :
    Calls Tryd.prog 32 #[bv, tx t, iv'] w fun e w' => e = .returned (.bool r) ∧ Below w.heap.size w w' := by
  have ha : a < 18446744073709551616 := by have := se_of_lt l; rw [ho] at this; exact this
  have HO := Lib.hid ho
  have HB := Lib.hid hb
  have HI := Lib.hid hi
  obtain ⟨ab, cb, rfl⟩ := hb.len (n := b.length) (seals_len b) (by omega)
  obtain ⟨ai, ci, rfl⟩ := hi.len (n := l.length) (ints_len l) (by omega)
  by_cases hx : x = 0
  · subst hx
    obtain ⟨z, hz⟩ : ∃ z, Bk.all b a t = z := ⟨_, rfl⟩
    rw [hz] at hr
    simp only [decide_true, Bool.true_and] at hr
    subst hr
    have HZ := Lib.hid hz
    clear ho hb hi hz
    go_enter Tryd.func32, Tryd.ntmps32
    go_wp2_with fail
    refine (cof HO.out _ HI.out hil).mono ?_
    rintro e w1 ⟨rfl, g1⟩
    go_wp2_with fail
    refine (pall_eq HZ.out _ (HB.out.below g1) hl ha).mono ?_
    rintro e w2 ⟨rfl, g2⟩
    have G2 := Lib.hid (grow_trans g1 g2)
    clear g1 g2
    go_wp2
    go_ret
    exact ⟨rfl, G2.out⟩
  · have hr' : r = false := by rw [← hr, decide_eq_false hx, Bool.false_and]
    subst hr'
    have t1 : ((x : Int) == 0) = false := by rw [beq_eq_false_iff_ne]; omega
    clear ho hb hi hr hx
    go_enter Tryd.func32, Tryd.ntmps32
    go_wp2_with fail
    refine (cof HO.out _ HI.out hil).mono ?_
    rintro e w1 ⟨rfl, g1⟩
    go_wp2
    go_ret
    exact ⟨rfl, g1⟩
end Go.Proofs.YtflmfbcjmjlkbaaDoor
/- Package cert as it landed: Check; the document's example. -/
namespace Go.Proofs.YtflmfbcjmjlkbaaDoor
open Go.RowKit
set_option maxRecDepth 100000

/-- A proof as a value; its own cells, in a block. -/
abbrev prfV (a r : Int) (b p : Value) (x y : Int) (s : Nat) : Value := .agg #[.int .i64 a, .int .i64 r, b, p, .int .i64 x, .int .i64 y, .int .u64 s]
def PBox (W : World) (B : Nat) (a r : Int) (b p : Value) (x y : Int) (s : Nat) : Prop := W.heap[B]? = some (.cells #[.int .i64 a, .int .i64 r, b, p, .int .i64 x, .int .i64 y, .int .u64 s] 31 (0, 0))
section
variable {W W' : World} {B n s : Nat} {a r x y : Int} {b p : Value}
theorem PBox.lt (h : PBox W B a r b p x y s) : B < W.heap.size := (Array.getElem?_eq_some_iff.1 h).1
theorem PBox.cells (h : PBox W B a r b p x y s) : W.cell? ⟨B, 0, none⟩ = some (.int .i64 a) ∧ W.cell? ⟨B, 1, none⟩ = some (.int .i64 r) ∧ W.cell? ⟨B, 2, none⟩ = some b ∧ W.cell? ⟨B, 3, none⟩ = some p ∧ W.cell? ⟨B, 4, none⟩ = some (.int .i64 x) ∧ W.cell? ⟨B, 5, none⟩ = some (.int .i64 y) ∧ W.cell? ⟨B, 6, none⟩ = some (.int .u64 s) := by
  have e : W.heap[B]? = _ := h
  refine ⟨?_, ?_, ?_, ?_, ?_, ?_, ?_⟩ <;> simp [World.cell?, e]
theorem PBox.free (h : PBox W B a r b p x y s) : W.frozen? ⟨B, 0, none⟩ = false ∧ W.frozen? ⟨B, 1, none⟩ = false ∧ W.frozen? ⟨B, 2, none⟩ = false ∧ W.frozen? ⟨B, 3, none⟩ = false ∧ W.frozen? ⟨B, 4, none⟩ = false ∧ W.frozen? ⟨B, 5, none⟩ = false ∧ W.frozen? ⟨B, 6, none⟩ = false := by
  have e : W.heap[B]? = _ := h
  refine ⟨?_, ?_, ?_, ?_, ?_, ?_, ?_⟩ <;> simp [World.frozen?, e]
theorem PBox.new (W : World) (a r : Int) (b p : Value) (x y : Int) (s : Nat) : PBox (W.alloc (.cells #[.int .i64 a, .int .i64 r, b, p, .int .i64 x, .int .i64 y, .int .u64 s] 31)) W.heap.size a r b p x y s := World.alloc_heap_new W _
theorem PBox.kept (h : PBox W B a r b p x y s) (hb : Below W.heap.size W W') : PBox W' B a r b p x y s := (hb.block B h.lt).trans h
theorem PBox.alloc (h : PBox W B a r b p x y s) (o : Obj) : PBox (W.alloc o) B a r b p x y s := h.kept ((Below.refl _ _).alloc (Nat.le_refl _) o)
end

theorem clist (v : Nat) (hv : v < 18446744073709551616) (w : World) :
    Calls Tryd.prog 37 #[.int .u64 v] w fun e w' => ∃ s, e = .returned s ∧ FlatAt w' s 1 (ints ((Se.list v).map fun (i : Nat) => (i : Int))) ∧ Below w.heap.size w w' :=
  (plist_any v hv w).mono fun e w' ⟨s, he, hs, hb⟩ => ⟨s, he, by rw [← ints_ids]; exact hs, hb⟩
theorem sum_32 (s : List UInt8) : (Sh.sum s).length = 32 := by
  obtain ⟨a, b, c, d, e, f, g, k, h⟩ := Sh.eight _ (Sh.after_len (Sh.pad s) ((Sh.pad s).length / 64))
  rw [Sh.sum, h]
  rfl

set_option maxHeartbeats 4000000 in
theorem pcheck (n : Int) (b : List Bk.Sl) (p : Cr.Prf) (bkv bv pv : Value) (w : World) (hk : FlatAt w bkv 2 (seals b)) (hl : b.length ≤ 140737488351232) (hb : BtsAt w bv p.1.2.2.1) (hp : TxAt w pv p.1.2.2.2.1) (mv : Vt.Mod p.1) (hx : p.2 < 18446744073709551616) (n1 : -9223372036854775808 ≤ n) (n2 : n ≤ 9223372036854775807) (hw : GW w) :
    Calls Tryd.prog 18 #[.int .i64 n, bkv, prfV p.1.1 p.1.2.1 bv pv p.1.2.2.2.2.1 p.1.2.2.2.2.2 p.2] w fun e w' => e = .returned (.int .i64 (Cr.check n b p)) ∧ Below w.heap.size w w' := by
  have MV := Lib.hid mv
  have HW := Lib.hid hw
  obtain ⟨v, x⟩ := p
  simp only [] at hb hp hx
  have hdl := sum_32 (118 :: Vt.bytes v)
  have hol := Se.ofL_list x hx
  obtain ⟨⟨d, er⟩, hD⟩ : ∃ R, Vt.digestR v n = R := ⟨_, rfl⟩
  obtain ⟨en, hen⟩ : ∃ z, Cr.enough n x = z := ⟨_, rfl⟩
  have HD := Lib.hid hD
  have HEN := Lib.hid hen
  obtain ⟨ak, ck, hke⟩ := hk.len (n := b.length) (seals_len b) (by omega)
  obtain ⟨ab, cb, hbe⟩ := hb.len
  obtain ⟨ap, cp, hpe⟩ := hp.len
  have HK := Lib.hid hk
  have HB := Lib.hid hb
  have HP := Lib.hid hp
  cases hm : Vt.may v n with
  | false =>
    have hc : Cr.check n b (v, x) = 1 := by
      have hf : Cr.fits (v, x) n = 1 := by unfold Cr.fits; rw [if_neg (by simp [hm])]
      rw [Cr.check_no (by rw [hf]; omega), hf]
    have E := Lib.hid hc
    rw [Vt.digestR_no hm] at hD
    simp only [Prod.mk.injEq] at hD
    obtain ⟨rfl, rfl⟩ := hD
    obtain ⟨a, r, bs, ps, y, z⟩ := v
    simp only [] at hbe hpe HB HP
    subst hke hbe hpe
    have P0 := Lib.hid (PBox.new w a r (.slice ab bs.length cb) (.slice ap ps.length cp) y z x)
    have HG := Lib.hid (show Below w.heap.size w (w.alloc (.cells #[.int .i64 a, .int .i64 r, .slice ab bs.length cb, .slice ap ps.length cp, .int .i64 y, .int .i64 z, .int .u64 x] 31)) from (Below.refl _ _).alloc (Nat.le_refl _) _)
    clear hk hb hp hm hc hdl hol hen mv hw
    go_enter Tryd.func18, Tryd.ntmps18
    go_wp2_with fail
    refine (pvdigest_eq (v := (a, r, bs, ps, y, z)) HD.out _ _ _ (HB.out.below HG.out) (HP.out.below HG.out) MV.out n1 n2 (HW.out.below HG.out)).mono ?_
    rintro e w1 ⟨rfl, g1⟩
    have G1 := Lib.hid (HG.out.trans (g1.mono (by simp)))
    clear g1
    go_wp2
    go_ret
    exact ⟨by rw [E.out]; rfl, G1.out⟩
  | true =>
    rw [Vt.digestR_ok hm] at hD
    simp only [Prod.mk.injEq] at hD
    obtain ⟨hd, rfl⟩ := hD
    have hd32 : d.length = 32 := by rw [← hd]; exact hdl
    have hdv : Cr.vdig v = d := hd
    have hf : Cr.fits (v, x) n = en := (Cr.fits_of (p := (v, x)) hm).trans hen
    obtain ⟨al, hal⟩ : ∃ z, Bk.all b x (Cr.yd d) = z := ⟨_, rfl⟩
    have hc : Cr.check n b (v, x) = if en = 0 then (if al = true then 0 else 10) else en := by
      by_cases h0 : en = 0
      · rw [if_pos h0, Cr.check_ok (hf.trans h0)]
        show (if Bk.all b x (Cr.yd (Cr.vdig v)) = true then 0 else 10) = _
        rw [hdv, hal]
      · rw [if_neg h0, Cr.check_no (by rw [hf]; exact h0), hf]
    have E := Lib.hid hc
    have HAL := Lib.hid (show (decide ((0 : Nat) = 0) && Bk.all b x (Cr.yd d)) = al by rw [hal]; simp)
    have HOL := Lib.hid hol
    obtain ⟨a, r, bs, ps, y, z⟩ := v
    simp only [] at hbe hpe HB HP
    subst hke hbe hpe
    have P0 := Lib.hid (PBox.new w a r (.slice ab bs.length cb) (.slice ap ps.length cp) y z x)
    have HG := Lib.hid (show Below w.heap.size w (w.alloc (.cells #[.int .i64 a, .int .i64 r, .slice ab bs.length cb, .slice ap ps.length cp, .int .i64 y, .int .i64 z, .int .u64 x] 31)) from (Below.refl _ _).alloc (Nat.le_refl _) _)
    clear hk hb hp hm hc hdl hol hen mv hw hf hd hdv hal
    go_enter Tryd.func18, Tryd.ntmps18
    go_wp2_with fail
    refine (pvdigest_eq (v := (a, r, bs, ps, y, z)) HD.out _ _ _ (HB.out.below HG.out) (HP.out.below HG.out) MV.out n1 n2 (HW.out.below HG.out)).mono ?_
    rintro e w1 ⟨rfl, g1⟩
    have P1 := Lib.hid (P0.out.kept g1)
    have G1 := Lib.hid (HG.out.trans (g1.mono (by simp)))
    obtain ⟨c0, c1, c2, c3, c4, c5, c6⟩ := P1.out.cells
    clear g1
    go_wp2_with fail
    refine (penough_eq HEN.out hx n1 n2 _).mono ?_
    rintro e w2 ⟨rfl, g2⟩
    have P2 := Lib.hid (P1.out.kept g2)
    have G2 := Lib.hid (grow_trans G1.out g2)
    clear g2 c0 c1 c2 c3 c4 c5 c6
    by_cases h0 : en = 0
    · subst h0
      have E2 := Lib.hid (E.out.trans (if_pos rfl))
      obtain ⟨c0, c1, c2, c3, c4, c5, c6⟩ := P2.out.cells
      have hS : (fun w' : World => w'.cell? ⟨w.heap.size, 6, none⟩ = some (.int .u64 x) ∧ Below w.heap.size w w') w2 := ⟨c6, G2.out⟩
      have hk := Lib.hid (show ∀ a' b' : World, (fun w' : World => w'.cell? ⟨w.heap.size, 6, none⟩ = some (.int .u64 x) ∧ Below w.heap.size w w') a' → Below a'.heap.size a' b' → (fun w' : World => w'.cell? ⟨w.heap.size, 6, none⟩ = some (.int .u64 x) ∧ Below w.heap.size w w') b' from fun a' b' ⟨k0, kb⟩ h => ⟨below_cell h k0, grow_trans kb h⟩)
      have hvt := Lib.hid (fun W (h : (fun w' : World => w'.cell? ⟨w.heap.size, 6, none⟩ = some (.int .u64 x) ∧ Below w.heap.size w w') W) => keepB (fun w' : World => w'.cell? ⟨w.heap.size, 6, none⟩ = some (.int .u64 x) ∧ Below w.heap.size w w') hk.out (same_below (pvote d (by omega) W)) h)
      have hls := Lib.hid (show ∀ W, (fun w' : World => w'.cell? ⟨w.heap.size, 6, none⟩ = some (.int .u64 x) ∧ Below w.heap.size w w') W → Calls Tryd.prog 37 #[.int .u64 x] W fun e w' => ∃ s, e = .returned s ∧ FlatAt w' s 1 (ints ((Se.list x).map fun (i : Nat) => (i : Int))) ∧ (fun w' : World => w'.cell? ⟨w.heap.size, 6, none⟩ = some (.int .u64 x) ∧ Below w.heap.size w w') w' from fun W h => (clist x hx W).mono fun e w' ⟨s, he, hs, hb⟩ => ⟨s, he, hs, hk.out _ _ h hb⟩)
      have hsl := Lib.hid (fun s W (hs : FlatAt W s 1 (ints ((Se.list x).map fun (i : Nat) => (i : Int)))) (h : (fun w' : World => w'.cell? ⟨w.heap.size, 6, none⟩ = some (.int .u64 x) ∧ Below w.heap.size w w') W) => keepB (fun w' : World => w'.cell? ⟨w.heap.size, 6, none⟩ = some (.int .u64 x) ∧ Below w.heap.size w w') hk.out (psealed HOL.out HAL.out (.slice ak b.length ck) s W (HK.out.below h.2) hl hs (by rw [List.length_map]; have := Se.count_le x; unfold Se.count at this; omega)) h)
      clear c0 c1 c2 c3 c4 c5 c6 P0 P1 P2 HG G1 G2 HB HP HK HAL HOL HD HEN MV HW
      go_wp2_with fail
      go_region_held3 (fun w' : World => w'.cell? ⟨w.heap.size, 6, none⟩ = some (.int .u64 x) ∧ Below w.heap.size w w')
        (first | assumption | exact hk.out _ _ hS (Below.drew (Below.refl _ _)) | exact hk.out _ _ (by assumption) ((Below.refl _ _).alloc (Nat.le_refl _) _))
        (first
          | (go_at_call 12; refine (hvt.out _ (by assumption)).mono ?_; rintro e w3 ⟨rfl, kS⟩)
          | (go_at_call 37; refine (hls.out _ (by assumption)).mono ?_; rintro e w3 ⟨s, rfl, hs, kS⟩)
          | (go_at_call 32; refine (hsl.out _ _ (by assumption) (by assumption)).mono ?_; rintro e w3 ⟨rfl, kS⟩))
      all_goals
        cases al with
        | true =>
          have E3 := Lib.hid (E2.out.trans (if_pos rfl))
          go_wp2_with fail
          go_ret
          exact ⟨by rw [E3.out]; rfl, (show (fun w' : World => w'.cell? ⟨w.heap.size, 6, none⟩ = some (.int .u64 x) ∧ Below w.heap.size w w') _ by assumption).2⟩
        | false =>
          have E3 := Lib.hid (E2.out.trans (if_neg (by simp)))
          go_wp2_with fail
          go_ret
          exact ⟨by rw [E3.out]; rfl, (show (fun w' : World => w'.cell? ⟨w.heap.size, 6, none⟩ = some (.int .u64 x) ∧ Below w.heap.size w w') _ by assumption).2⟩
    · have t1 : ((en : Int) != 0) = true := by rw [bne_iff_ne]; omega
      have E2 := Lib.hid (E.out.trans (if_neg h0))
      clear h0
      go_wp2
      go_ret
      exact ⟨by rw [E2.out]; rfl, G2.out⟩
end Go.Proofs.YtflmfbcjmjlkbaaDoor
/- Opening a book that came in. -/
set_option maxRecDepth 100000
namespace Go.Proofs.YtflmfbcjmjlkbaaDoor
open Go.RowKit
/-- A book that came in, as what is cut and appended. -/
def BookAt (w : World) (v : Value) (l : List Bk.Sl) : Prop := (∃ a, v = .slice a 0 0 ∧ l = []) ∨ ∃ b off cap, v = .slice (some ⟨b, off, none⟩) l.length cap ∧ l.length ≤ cap ∧ cap ≤ maxLen ∧ ∀ k (h : k < l.length), w.cell? ⟨b, off + k * 2, none⟩ = some (iv l[k].1) ∧ w.cell? ⟨b, off + k * 2 + 1, none⟩ = some (tx l[k].2)
theorem BookAt.below {w w' : World} {v : Value} {l : List Bk.Sl} (h : BookAt w v l) (hb : Below w.heap.size w w') : BookAt w' v l := by
  rcases h with h | ⟨b, off, cap, hv, h1, h2, hc⟩
  · exact .inl h
  · exact .inr ⟨b, off, cap, hv, h1, h2, fun k hk => ⟨below_cell hb (hc k hk).1, below_cell hb (hc k hk).2⟩⟩
theorem clone_row {w : World} {b off : Nat} {l : List Bk.Sl} (hc : ∀ k (h : k < l.length), w.cell? ⟨b, off + k * 2, none⟩ = some (iv l[k].1) ∧ w.cell? ⟨b, off + k * 2 + 1, none⟩ = some (tx l[k].2)) :
    ∀ j u, (seals l)[j]? = some u → w.cell? ((⟨b, off, none⟩ : Addr).add j) = some u := by
  intro j u hj
  have hlt : j < (seals l).length := (List.getElem?_eq_some_iff.1 hj).1
  rw [seals_len] at hlt
  have ha : (⟨b, off, none⟩ : Addr).add j = ⟨b, off + j, none⟩ := by unfold Addr.add; split <;> simp_all
  rw [ha]
  obtain ⟨h1, h2⟩ := hc (j / 2) (by omega)
  obtain ⟨s1, s2⟩ := seals_at l (j / 2) (by omega)
  by_cases hm : j % 2 = 0
  · have e : j / 2 * 2 = j := by omega
    rw [e] at h1 s1
    rw [h1, ← s1, hj]
  · have e : j / 2 * 2 + 1 = j := by omega
    rw [e] at s2
    rw [Nat.add_assoc, e] at h2
    rw [h2, ← s2, hj]
theorem BookAt.flat {w : World} {v : Value} {l : List Bk.Sl} (h : BookAt w v l) : FlatAt w v 2 (seals l) := by
  rcases h with ⟨a, hv, rfl⟩ | ⟨b, off, cap, hv, h1, h2, hc⟩
  · exact .inl ⟨_, _, hv, rfl⟩
  · refine .inr ⟨b, off, l.length, cap, hv, seals_len l, fun i hi => ?_⟩
    have hr := clone_row hc i _ (List.getElem?_eq_getElem hi)
    have ha : (⟨b, off, none⟩ : Addr).add i = ⟨b, off + i, none⟩ := by unfold Addr.add; split <;> simp_all
    rw [ha] at hr
    exact hr
end Go.Proofs.YtflmfbcjmjlkbaaDoor
namespace Go.Proofs.YtflmfbcjmjlkbaaDoor
open Go.RowKit Go.ChangeShapes Go.WideShapes Go.ChangeAt
theorem bulk_len {H : Type} (D : Nat → DataW H) (m : Nat) : m ≤ Rows.uptoBulkAll ((List.range m).map D) := by
  have h1 : ∀ x : DataW H, 1 ≤ Rows.uptoBulk x := by
    intro x
    cases x with
    | lit y => cases y <;> simp [Rows.uptoBulk]
    | _ => simp [Rows.uptoBulk]
  have : ∀ xs : List (DataW H), xs.length ≤ Rows.uptoBulkAll xs := by
    intro xs
    induction xs with
    | nil => simp [Rows.uptoBulkAll]
    | cons x xs ih => have := h1 x; simp only [Rows.uptoBulkAll, List.length_cons]; omega
  have := this ((List.range m).map D)
  simpa using this
theorem trod_seals {H : Type} {enc : TypeId × Value → H} {W : World} {n : Nat} {t : TypeId} {v : Value} {y : DataW H × List MemPlace} (ht : Tryd.prog.underlying t = some (.slice 60)) (h : DataW.trod enc Tryd.prog W 0 (fun _ => true) true n t [v] = some y) :
    ∃ l, BookAt W v l ∧ l.length ≤ Rows.uptoBulk y.1 ∧ (l = [] ∨ ∃ es sp, y.1 = .slice es sp ∧ es.length = l.length) := by
  rcases Go.Deep.open_slice_pairs ht Tryd.underlying60 (by kernel_rfl) rfl rfl (by kernel_rfl) (by kernel_rfl) h with ⟨hv, rfl⟩ | ⟨a, len, cap, m, k, V0, V1, D0, D1, P0, P1, hv, _, hl, hcap, hm, rfl, hc⟩
  · cases hv
    exact ⟨[], .inl ⟨none, rfl, rfl⟩, by simp, .inl rfl⟩
  · cases hv
    simp only [if_true] at hm
    subst hm
    have hs : ∀ i, ∃ s : Bk.Sl, i < m → V0 i = iv s.1 ∧ V1 i = tx s.2 := by
      intro i
      by_cases hi : i < m
      · obtain ⟨_, _, h0, h1⟩ := hc i hi
        obtain ⟨x, _, _, e0, _⟩ := trod_i64 Tryd.underlying3 h0
        obtain ⟨u, e1, _⟩ := trod_tx Tryd.underlying9 h1
        exact ⟨(x, u), fun _ => ⟨e0, e1⟩⟩
      · exact ⟨(0, []), fun h => absurd h hi⟩
    let S : Nat → Bk.Sl := fun i => (hs i).choose
    have hS : ∀ i, i < m → V0 i = iv (S i).1 ∧ V1 i = tx (S i).2 := fun i hi => (hs i).choose_spec hi
    have hlen : ((List.range len).map S).length = len := by simp
    refine ⟨(List.range len).map S, ?_, ?_, .inr ⟨_, _, rfl, by simp⟩⟩
    · by_cases h0 : m = 0
      · obtain rfl : len = 0 := by omega
        subst h0
        exact .inl ⟨some a, rfl, by simp⟩
      · obtain ⟨h1, _, _, _⟩ := hc 0 (by omega)
        obtain ⟨b, off, spot⟩ := a
        have hspot : spot = none := by simpa [Addr.add] using World.cell?_spot h1
        subst hspot
        refine .inr ⟨b, off, m, by rw [hlen], by omega, hcap, fun i hi => ?_⟩
        have hi' : i < len := by rw [hlen] at hi; exact hi
        obtain ⟨c0, c1, _, _⟩ := hc i (by omega)
        have ha : ∀ j, (⟨b, off, none⟩ : Addr).add j = ⟨b, off + j, none⟩ := fun j => by unfold Addr.add; split <;> simp_all
        rw [ha] at c0 c1
        obtain ⟨e0, e1⟩ := hS i (by omega)
        rw [e0] at c0
        rw [e1] at c1
        have hg : ((List.range len).map S)[i] = S i := by simp
        rw [hg]
        exact ⟨c0, c1⟩
    · rw [hlen]
      simp only [Rows.uptoBulk]
      have := bulk_len (H := H) (fun i => .agg [D0 i, D1 i]) len
      omega
/-- No row of seals is longer than what a row's bytes may be. -/
theorem seals_reach {H : Type} {l : List Bk.Sl} {d : DataW H} (hd : l = [] ∨ ∃ es sp, d = .slice es sp ∧ es.length = l.length) (h : (DataW.weights Tryd.prog 22 d).all (· ≤ reachBytes) = true) : l.length ≤ 5864062014634 := by
  rcases hd with rfl | ⟨es, sp, rfl, he⟩
  · simp
  · have hb : Tryd.prog.bytesOf 60 = 24 := by kernel_rfl
    simp only [DataW.weights, Tryd.underlying22, hb, List.all_cons, Bool.and_eq_true, decide_eq_true_iff] at h
    have h1 := h.1
    unfold reachBytes at h1
    omega
end Go.Proofs.YtflmfbcjmjlkbaaDoor
/- The document's example of a certificate; a proof that came in. -/
namespace Cr
/-- Three who have sealed a text. -/
def three (t : List UInt8) : List Bk.Sl := [(1, t), (2, t), (3, t)]
theorem ex_all (t : List UInt8) : Bk.all (three t) 7 t = true := by
  unfold Bk.all
  rw [show Se.list 7 = [1, 2, 3] from by decide]
  simp [Bk.has, three]
theorem ex_ok (b : List Bk.Sl) (h : Bk.all b 7 (yd (vdig (1, 1, [], [], 0, 0))) = true) : check 4 b ((1, 1, [], [], 0, 0), 7) = 0 :=
  check_of ((fits_of (p := ((1, 1, [], [], 0, 0), 7)) Vt.ex_may).trans (by decide)) h
theorem ex_more (b : List Bk.Sl) : check 4 b ((1, 1, [], [], 0, 0), 3) = 2 := by
  have hf : fits ((1, 1, [], [], 0, 0), 3) 4 = 2 := (fits_of (p := ((1, 1, [], [], 0, 0), 3)) Vt.ex_may).trans (by decide)
  rw [check_no (by rw [hf]; omega), hf]
end Cr
namespace Go.Proofs.YtflmfbcjmjlkbaaDoor
open Go.RowKit Go.ChangeShapes Go.WideShapes Go.ChangeAt
set_option maxRecDepth 100000
attribute [local go_sem] ByteArray.mk_append_mk

theorem pcheck_eq {n : Int} {b : List Bk.Sl} {p : Cr.Prf} {r : Nat} (h : Cr.check n b p = r) (bkv bv pv : Value) (w : World) (hk : FlatAt w bkv 2 (seals b)) (hl : b.length ≤ 140737488351232) (hb : BtsAt w bv p.1.2.2.1) (hp : TxAt w pv p.1.2.2.2.1) (mv : Vt.Mod p.1) (hx : p.2 < 18446744073709551616) (n1 : -9223372036854775808 ≤ n) (n2 : n ≤ 9223372036854775807) (hw : GW w) :
    Calls Tryd.prog 18 #[.int .i64 n, bkv, prfV p.1.1 p.1.2.1 bv pv p.1.2.2.2.2.1 p.1.2.2.2.2.2 p.2] w fun e w' => e = .returned (.int .i64 r) ∧ Below w.heap.size w w' := by subst h; exact pcheck n b p bkv bv pv w hk hl hb hp mv hx n1 n2 hw

set_option maxHeartbeats 4000000 in
theorem certShown (w : World) (hw : GW w) : Calls Tryd.prog 9 #[] w fun e w' => e = .returned (.bool true) ∧ Below w.heap.size w w' := by
  have HW := Lib.hid hw
  obtain ⟨d, hd⟩ : ∃ d, Cr.vdig (1, 1, [], [], 0, 0) = d := ⟨_, rfl⟩
  have hd32 : d.length = 32 := by rw [← hd]; exact sum_32 _
  have hD : Vt.digestR (1, 1, [], [], 0, 0) 4 = (d, 0) := by rw [Vt.digestR_ok Vt.ex_may]; exact congrArg (·, 0) hd
  have hmod : Vt.Mod (1, 1, [], [], 0, 0) := Vt.mod_may Vt.ex_may
  have e1 := fun W => cat_run [121] d (by simp; omega) W
  obtain ⟨t, ht⟩ : ∃ t, Cr.yd d = t := ⟨_, rfl⟩
  have ht' : [121] ++ d = t := ht
  rw [ht'] at e1
  have C7 := Lib.hid (Cr.ex_ok (Cr.three t) (by rw [hd, ht]; exact Cr.ex_all t))
  have C3 := Lib.hid (Cr.ex_more (Cr.three t))
  have HD := Lib.hid hD
  have HM := Lib.hid hmod
  have HT := Lib.hid ht
  have hbb : ∀ W : World, BtsAt W (.slice none 0 0) ([] : List Bt.Bat) := fun W => ⟨[], .inl ⟨none, 0, rfl, rfl⟩, trivial⟩
  have hpp : ∀ W : World, TxAt W (.slice none 0 0) ([] : List (List UInt8)) := fun W => .inl ⟨none, 0, rfl, rfl⟩
  have HBB := Lib.hid hbb
  have HPP := Lib.hid hpp
  have V0 := Lib.hid (VBox.new w 1 1 (.slice none 0 0) (.slice none 0 0) 0 0)
  have G0 := Lib.hid (show Below w.heap.size w (w.alloc (.cells #[.int .i64 1, .int .i64 1, .slice none 0 0, .slice none 0 0, .int .i64 0, .int .i64 0] 28)) from (Below.refl _ _).alloc (Nat.le_refl _) _)
  clear hw hd hD hmod ht ht' hbb hpp
  go_enter Tryd.func9, Tryd.ntmps9
  go_wp2_with fail
  refine (rvdigest_eq (v := (1, 1, [], [], 0, 0)) (n := 4) HD.out _ _ _ (HBB.out _) (HPP.out _) HM.out (by omega) (by omega)).mono ?_
  rintro e w1 ⟨rfl, g1⟩
  have V1 := Lib.hid (V0.out.kept g1)
  have G1 := Lib.hid (G0.out.trans (g1.mono (by simp)))
  have g2 : Below w1.heap.size w1 (w1.alloc (.cells #[.int .i64 1, tx t, .int .i64 2, tx t, .int .i64 3, tx t] 60)) := (Below.refl _ _).alloc (Nat.le_refl _) _
  have V2 := Lib.hid (V1.out.kept g2)
  have G2 := Lib.hid (grow_trans G1.out g2)
  have HK := Lib.hid (show FlatAt (w1.alloc (.cells #[.int .i64 1, tx t, .int .i64 2, tx t, .int .i64 3, tx t] 60)) (.slice (some ⟨w1.heap.size, 0, none⟩) 3 3) 2 (seals (Cr.three t)) from
    .inr ⟨w1.heap.size, 0, 3, 3, rfl, rfl, fun i hi => by
      have hi' : i < 6 := hi
      match i, hi' with
      | 0, _ => simp [seals, Cr.three, iv]
      | 1, _ => simp [seals, Cr.three, iv]
      | 2, _ => simp [seals, Cr.three, iv]
      | 3, _ => simp [seals, Cr.three, iv]
      | 4, _ => simp [seals, Cr.three, iv]
      | 5, _ => simp [seals, Cr.three, iv]⟩)
  obtain ⟨c0, c1, c2, c3, c4, c5⟩ := V2.out.cells
  clear g1 g2
  go_wp2_with fail
  refine (pcheck_eq (n := 4) (p := ((1, 1, [], [], 0, 0), 7)) C7.out _ _ _ _ HK.out (by simp [Cr.three]) (HBB.out _) (HPP.out _) HM.out (by simp) (by omega) (by omega) (HW.out.below G2.out)).mono ?_
  rintro e w3 ⟨rfl, g3⟩
  have V3 := Lib.hid (V2.out.kept g3)
  have G3 := Lib.hid (grow_trans G2.out g3)
  have HK3 := Lib.hid (HK.out.below g3)
  clear c0 c1 c2 c3 c4 c5 g3
  obtain ⟨c0, c1, c2, c3, c4, c5⟩ := V3.out.cells
  go_wp2_with fail
  refine (pcheck_eq (n := 4) (p := ((1, 1, [], [], 0, 0), 3)) C3.out _ _ _ _ HK3.out (by simp [Cr.three]) (HBB.out _) (HPP.out _) HM.out (by simp) (by omega) (by omega) (HW.out.below G3.out)).mono ?_
  rintro e w4 ⟨rfl, g4⟩
  have G4 := Lib.hid (grow_trans G3.out g4)
  clear c0 c1 c2 c3 c4 c5 g4
  go_wp2_with fail
  refine (pvote d (by omega) _).mono ?_
  rw [HT.out]
  rintro e w5 ⟨rfl, rfl⟩
  go_wp2
  go_ret
  exact ⟨rfl, G4.out⟩

section
variable {H : Type} {enc : TypeId × Value → H} {W : World}
theorem elem_prf (n : Nat) (cs : List Value) (x : DataW H × List MemPlace) (hl : cs.length = 7) (h : DataW.trod enc Tryd.prog W 0 (fun _ => true) true n 31 cs = some x) (hsz : (DataW.weights Tryd.prog 31 x.1).all (· ≤ reachBytes) = true) :
    ∃ (p : Cr.Prf) (bv pv : Value), cs = [.int .i64 p.1.1, .int .i64 p.1.2.1, bv, pv, .int .i64 p.1.2.2.2.2.1, .int .i64 p.1.2.2.2.2.2, .int .u64 p.2] ∧ BtsAt W bv p.1.2.2.1 ∧ TxAt W pv p.1.2.2.2.1 ∧ Vt.Mod p.1 ∧ p.2 < 18446744073709551616 := by
  obtain ⟨xs, m, _, rfl, _, hlen, hf⟩ := DataW.trod_struct Tryd.underlying31 h
  have k1 : Tryd.prog.cellsOf 28 = 6 := by kernel_rfl
  have k2 : Tryd.prog.cellsOf 29 = 1 := by kernel_rfl
  match cs, hl, xs, hlen with
  | [e0, e1, e2, e3, e4, e5, e6], _, [y0, y1], _ =>
    have h0 := hf 0 _ rfl
    have h1 := hf 1 _ rfl
    simp only [List.map_cons, List.map_nil, DataW.weights, Tryd.underlying31] at hsz
    obtain ⟨v, bv, pv, he, hb, hp, l1, l2, l3⟩ := elem_vtx (W := W) m [e0, e1, e2, e3, e4, e5] y0 rfl (by simpa [k1] using h0) (sized_at hsz (j := 0) rfl rfl)
    simp only [List.cons.injEq, and_true] at he
    obtain ⟨rfl, rfl, rfl, rfl, rfl, rfl⟩ := he
    obtain ⟨z, hz, _, wz⟩ := DataW.trod_int Tryd.underlying29 (show DataW.trod enc Tryd.prog W 0 (fun _ => true) true m 29 [e6] = some y1 by simpa [k2] using h1)
    cases hz
    have hb2 : 0 ≤ z ∧ z ≤ 18446744073709551615 := by simpa [Lit.wf, IntKind.min, IntKind.max, IntKind.signed, IntKind.bits] using wz
    obtain ⟨q, rfl⟩ := Int.eq_ofNat_of_zero_le hb2.1
    exact ⟨(v, q), _, _, rfl, hb, hp, ⟨by show v.2.2.1.length ≤ 140737488351232; omega, l2, by show v.2.2.2.1.length ≤ 140737488351232; omega⟩, by show q < 18446744073709551616; omega⟩
end
end Go.Proofs.YtflmfbcjmjlkbaaDoor
