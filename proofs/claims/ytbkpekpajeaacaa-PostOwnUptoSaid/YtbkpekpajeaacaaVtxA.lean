/- BtsRow, VtxSeat, VtxSmall, VtxMayB, VtxMayP, VtxMay, VtxEach, VtxBytes, in one. -/
import Derived.Test.YtbkpekpajeaacaaGBat
import Derived.Test.YtbkpekpajeaacaaGVtx
import Derived.Deep.Onto
import Derived.Test.YtbkpekpajeaacaaGDig
import Derived.Laws.StructEq
/- Batches in a world: three cells each, the third one a slice of texts; all that lies below block M. -/
namespace Go.Proofs.Ytbkpekpajeaacaa
open Go.RowKit

/-- What lies below M, and below B or holds texts, is as it was. -/
def Stays (B M : Nat) (w w' : World) : Prop := ∀ k, k < M → (k < B ∨ TyS w k) → w'.heap[k]? = w.heap[k]?
theorem Stays.of {B M : Nat} {w w' : World} (h : Below M w w') : Stays B M w w' := fun k hk _ => h.block k hk
theorem Stays.trans {B M : Nat} {a b c : World} (h : Stays B M a b) (k : Stays B M b c) : Stays B M a c := fun i hi ht => by
  have e := h i hi ht
  rw [k i hi (ht.imp id fun ⟨cur, fz, hh⟩ => ⟨cur, fz, by rw [e]; exact hh⟩), e]
theorem Stays.mono {B M M' : Nat} {w w' : World} (h : Stays B M w w') (hM : M' ≤ M) : Stays B M' w w' := fun k hk ht => h k (by omega) ht
/-- The texts ls, in a block below M that is old or holds texts. -/
def TxM (B M : Nat) (w : World) (v : Value) (ls : List (List UInt8)) : Prop :=
  (∃ a cap, v = .slice a 0 cap ∧ ls = []) ∨ ∃ b off cap, b < M ∧ (b < B ∨ TyS w b) ∧ v = .slice (some ⟨b, off, none⟩) ls.length cap ∧ ∀ i (h : i < ls.length), w.cell? ⟨b, off + i, none⟩ = some (tx ls[i])
theorem TxM.at {B M : Nat} {w : World} {v : Value} {ls : List (List UInt8)} (h : TxM B M w v ls) : TxAt w v ls := by
  rcases h with h | ⟨b, off, cap, _, _, hv, hc⟩
  · exact .inl h
  · exact .inr ⟨b, off, cap, hv, hc⟩
theorem TxM.of {w : World} {v : Value} {ls : List (List UInt8)} (h : TxAt w v ls) : TxM w.heap.size w.heap.size w v ls := by
  rcases h with h | ⟨b, off, cap, hv, hc⟩
  · exact .inl h
  · by_cases h0 : ls.length = 0
    · exact .inl ⟨_, _, by rw [hv, h0], List.length_eq_zero_iff.1 h0⟩
    · have := World.block_lt_of_cell? w _ (hc 0 (by omega))
      exact .inr ⟨b, off, cap, this, .inl this, hv, hc⟩
theorem TxM.ofT {B : Nat} {w : World} {v : Value} {ls : List (List UInt8)} (h : TxAt w v ls) (ht : ∀ k, v.ownBlock = some k → TyS w k) : TxM B w.heap.size w v ls := by
  rcases h with h | ⟨b, off, cap, rfl, hc⟩
  · exact .inl h
  · by_cases h0 : ls.length = 0
    · exact .inl ⟨some ⟨b, off, none⟩, cap, by rw [h0], List.length_eq_zero_iff.1 h0⟩
    · exact .inr ⟨b, off, cap, World.block_lt_of_cell? w _ (hc 0 (by omega)), .inr (ht b rfl), rfl, hc⟩
theorem TxM.keep {B M : Nat} {w w' : World} {v : Value} {ls : List (List UInt8)} (h : TxM B M w v ls) (hb : Stays B M w w') : TxM B M w' v ls := by
  rcases h with h | ⟨b, off, cap, hM, ht, hv, hc⟩
  · exact .inl h
  · have e := hb b hM ht
    exact .inr ⟨b, off, cap, hM, ht.imp id (fun ⟨cur, fz, hh⟩ => ⟨cur, fz, by rw [e]; exact hh⟩), hv, fun i hi => (World.cell?_of_block (a := ⟨b, off + i, none⟩) e).trans (hc i hi)⟩
theorem TxM.mono {B B' M M' : Nat} {w : World} {v : Value} {ls : List (List UInt8)} (h : TxM B M w v ls) (hB : B ≤ B') (hM : M ≤ M') : TxM B' M' w v ls := by
  rcases h with h | ⟨b, off, cap, h1, h2, hv, hc⟩
  · exact .inl h
  · exact .inr ⟨b, off, cap, by omega, h2.imp (fun h => by omega) id, hv, hc⟩
theorem TxM.all {B M : Nat} {w : World} {v : Value} {ls : List (List UInt8)} (h : TxM B M w v ls) (hM : M ≤ w.heap.size) : TxM w.heap.size w.heap.size w v ls := by
  rcases h with h | ⟨b, off, cap, h1, _, hv, hc⟩
  · exact .inl h
  · exact .inr ⟨b, off, cap, by omega, .inl (by omega), hv, hc⟩

/-- Batches, as the cells of a slice; what each one's texts are lies below M. -/
def BtsM (B M : Nat) (w : World) : List Value → List Bt.Bat → Prop
  | [], [] => True
  | a :: b :: c :: cs, x :: xs => a = iv x.1 ∧ b = iv x.2.1 ∧ TxM B M w c x.2.2 ∧ BtsM B M w cs xs
  | _, _ => False
theorem BtsM.len {B M : Nat} {w : World} : ∀ {cs : List Value} {bs : List Bt.Bat}, BtsM B M w cs bs → cs.length = bs.length * 3
  | [], [], _ => rfl
  | _ :: _ :: _ :: cs, _ :: xs, h => by have := BtsM.len (cs := cs) h.2.2.2; simp only [List.length_cons]; omega
theorem BtsM.keep {B M : Nat} {w w' : World} (hb : Stays B M w w') : ∀ {cs : List Value} {bs : List Bt.Bat}, BtsM B M w cs bs → BtsM B M w' cs bs
  | [], [], _ => trivial
  | _ :: _ :: _ :: _, _ :: _, h => ⟨h.1, h.2.1, h.2.2.1.keep hb, BtsM.keep hb h.2.2.2⟩
theorem BtsM.mono {B B' M M' : Nat} {w : World} (hB : B ≤ B') (hM : M ≤ M') : ∀ {cs : List Value} {bs : List Bt.Bat}, BtsM B M w cs bs → BtsM B' M' w cs bs
  | [], [], _ => trivial
  | _ :: _ :: _ :: _, _ :: _, h => ⟨h.1, h.2.1, h.2.2.1.mono hB hM, BtsM.mono hB hM h.2.2.2⟩
theorem BtsM.all {B M : Nat} {w : World} (hM : M ≤ w.heap.size) : ∀ {cs : List Value} {bs : List Bt.Bat}, BtsM B M w cs bs → BtsM w.heap.size w.heap.size w cs bs
  | [], [], _ => trivial
  | _ :: _ :: _ :: _, _ :: _, h => ⟨h.1, h.2.1, h.2.2.1.all hM, BtsM.all hM h.2.2.2⟩
theorem BtsM.app {B M : Nat} {w : World} {ds : List Value} {ys : List Bt.Bat} (k : BtsM B M w ds ys) : ∀ {cs : List Value} {bs : List Bt.Bat}, BtsM B M w cs bs → BtsM B M w (cs ++ ds) (bs ++ ys)
  | [], [], _ => k
  | _ :: _ :: _ :: _, _ :: _, h => ⟨h.1, h.2.1, h.2.2.1, BtsM.app k h.2.2.2⟩
theorem BtsM.get {B M : Nat} {w : World} : ∀ {cs : List Value} {bs : List Bt.Bat}, BtsM B M w cs bs → ∀ k (h : k < bs.length), ∃ u, cs[k * 3]? = some (iv bs[k].1) ∧ cs[k * 3 + 1]? = some (iv bs[k].2.1) ∧ cs[k * 3 + 2]? = some u ∧ TxM B M w u bs[k].2.2
  | [], [], _, k, hk => absurd hk (by simp)
  | a :: b :: c :: cs, x :: xs, h, 0, _ => ⟨c, by rw [h.1]; rfl, by rw [h.2.1]; rfl, rfl, h.2.2.1⟩
  | a :: b :: c :: cs, x :: xs, h, k + 1, hk => by
    obtain ⟨u, h1, h2, h3, h4⟩ := BtsM.get h.2.2.2 k (by simpa using hk)
    refine ⟨u, ?_, ?_, ?_, h4⟩
    · rw [show (k + 1) * 3 = k * 3 + 3 by omega]; exact h1
    · rw [show (k + 1) * 3 + 1 = k * 3 + 1 + 3 by omega]; exact h2
    · rw [show (k + 1) * 3 + 2 = k * 3 + 2 + 3 by omega]; exact h3
theorem BtsM.one {B M : Nat} {w : World} {cs : List Value} {bs : List Bt.Bat} (h : BtsM B M w cs bs) : ∀ u ∈ cs, u.oneCell' = true := by
  induction cs, bs using BtsM.induct with
  | case1 => intro u hu; cases hu
  | case2 a b c cs x xs ih =>
    obtain ⟨h1, h2, h3, h4⟩ := h
    intro u hu
    simp only [List.mem_cons] at hu
    rcases hu with rfl | rfl | rfl | hu
    · rw [h1]; rfl
    · rw [h2]; rfl
    · rcases h3 with ⟨_, _, rfl, _⟩ | ⟨_, _, _, _, _, rfl, _⟩ <;> rfl
    · exact ih h4 u hu
  | case3 a b h => simp [BtsM] at h

/-- Batches in a slice: where they lie, and their texts. -/
def BtsAt (w : World) (v : Value) (bs : List Bt.Bat) : Prop := ∃ cs, FlatAt w v 3 cs ∧ BtsM w.heap.size w.heap.size w cs bs
theorem BtsAt.below {w w' : World} {v : Value} {bs : List Bt.Bat} (h : BtsAt w v bs) (hb : Below w.heap.size w w') : BtsAt w' v bs := by
  obtain ⟨cs, h1, h2⟩ := h
  exact ⟨cs, h1.below hb, (h2.keep (Stays.of hb)).mono hb.size hb.size⟩
theorem BtsAt.len {w : World} {v : Value} {bs : List Bt.Bat} (h : BtsAt w v bs) : ∃ a cap, v = .slice a bs.length cap := by
  obtain ⟨cs, h1, h2⟩ := h
  exact h1.len (n := bs.length) h2.len (by omega)
/-- Batches, opened. -/
theorem BtsAt.cells {w : World} {v : Value} {bs : List Bt.Bat} (h : BtsAt w v bs) :
    (bs = [] ∧ ∃ a cap, v = .slice a 0 cap) ∨ (0 < bs.length ∧ ∃ b off cap, v = .slice (some ⟨b, off, none⟩) bs.length cap ∧
      ∀ k (hk : k < bs.length), ∃ u, w.cell? ⟨b, off + k * 3, none⟩ = some (iv bs[k].1) ∧ w.cell? ⟨b, off + k * 3 + 1, none⟩ = some (iv bs[k].2.1) ∧ w.cell? ⟨b, off + k * 3 + 2, none⟩ = some u ∧ TxAt w u bs[k].2.2) := by
  obtain ⟨cs, h1, h2⟩ := h
  by_cases h0 : bs.length = 0
  · have e : bs = [] := List.length_eq_zero_iff.1 h0
    obtain ⟨a, cap, rfl⟩ := h1.len (n := bs.length) h2.len (by omega)
    subst e
    exact .inl ⟨rfl, _, _, rfl⟩
  · obtain ⟨b, off, cap, rfl, hc⟩ := h1.at (n := bs.length) h2.len (by omega) (by omega)
    refine .inr ⟨by omega, b, off, cap, rfl, fun k hk => ?_⟩
    obtain ⟨u, g1, g2, g3, g4⟩ := h2.get k hk
    have hl := h2.len
    have l1 : k * 3 < cs.length := by omega
    have l2 : k * 3 + 1 < cs.length := by omega
    have l3 : k * 3 + 2 < cs.length := by omega
    rw [List.getElem?_eq_getElem l1] at g1
    rw [List.getElem?_eq_getElem l2] at g2
    rw [List.getElem?_eq_getElem l3] at g3
    injection g1 with g1
    injection g2 with g2
    injection g3 with g3
    exact ⟨u, by rw [hc _ l1, g1], by rw [Nat.add_assoc, hc _ l2, g2], by rw [Nat.add_assoc, hc _ l3, g3], g4.at⟩
theorem own_below {w w' : World} {base k M : Nat} {t : TypeId} {v : Value} {n : Nat} {cs : List Value} (h : w.ownsRow base t k v n cs) (hb : Below M w w') (hM : ∀ g, v.ownBlock = some g → g < M) : w'.ownsRow base t k v n cs := by
  obtain ⟨h1, h2⟩ := h
  refine ⟨h1, ?_⟩
  rcases h2 with h2 | ⟨g, cap, cur, hv, hg, hh, r⟩
  · exact .inl h2
  · exact .inr ⟨g, cap, cur, hv, hg, by rw [hb.block g (hM g (by rw [hv]; rfl))]; exact hh, r⟩
end Go.Proofs.Ytbkpekpajeaacaa
/- Committees, as the program and the document have them. -/
namespace Go.Proofs.Ytbkpekpajeaacaa
open Go.RowKit

set_option maxHeartbeats 1000000 in
theorem rmay_any (n : Int) (h1 : -9223372036854775808 ≤ n) (h2 : n ≤ 9223372036854775807) (w : World) :
    Calls Try.prog 96 #[.int .i64 n] w fun e w' => e = .returned (.bool (Se.may n)) ∧ w = w' := by
  by_cases ha : n = 4
  · subst ha
    go_enter Try.func96, Try.ntmps96
    go_wp2
    go_ret
    exact ⟨rfl, rfl⟩
  have h4 : (n == 4) = false := by rw [beq_eq_false_iff_ne]; exact ha
  by_cases hb : 4 < n
  · by_cases hc : n ≤ 64
    · have hm : Se.may n = ((n - 1) % 3 == 0) := by
        unfold Se.may
        rw [Bool.eq_iff_iff]
        simp only [Bool.and_eq_true, decide_eq_true_iff, beq_iff_eq]
        omega
      have HM := Lib.hid hm
      clear hm ha
      go_enter Try.func96, Try.ntmps96
      go_wp2
      go_ret
      exact ⟨by rw [HM.out]; rfl, rfl⟩
    · have hm : Se.may n = false := by simp [Se.may]; omega
      have hc' : 64 < n := by omega
      have HM := Lib.hid hm
      clear hm ha hc
      go_enter Try.func96, Try.ntmps96
      go_wp2
      go_ret
      exact ⟨by rw [HM.out]; rfl, rfl⟩
  · have hm : Se.may n = false := by simp [Se.may]; omega
    have HM := Lib.hid hm
    clear hm ha
    go_enter Try.func96, Try.ntmps96
    go_wp2
    go_ret
    exact ⟨by rw [HM.out]; rfl, rfl⟩

theorem rmay_eq {n : Int} {b : Bool} (h : Se.may n = b) (h1 : -9223372036854775808 ≤ n) (h2 : n ≤ 9223372036854775807) (w : World) :
    Calls Try.prog 96 #[.int .i64 n] w fun e w' => e = .returned (.bool b) ∧ w = w' := by subst h; exact rmay_any n h1 h2 w
theorem may_range {n : Int} (h : Se.may n = true) : 4 ≤ n ∧ n ≤ 64 ∧ n % 3 = 1 := by
  simp only [Se.may, Bool.and_eq_true, decide_eq_true_iff] at h
  omega

set_option maxHeartbeats 1000000 in
theorem rquorum_any (n : Int) (h1 : -9223372036854775808 ≤ n) (h2 : n ≤ 9223372036854775807) (w : World) :
    Calls Try.prog 98 #[.int .i64 n] w fun e w' => e = .returned (.int .i64 (Se.quorum n)) ∧ w = w' := by
  cases hm : Se.may n with
  | true =>
    have hr := may_range hm
    have hf : Se.quorum n = n - (n - 1) / 3 := by rw [Se.quorum, if_pos hm]
    have HM := Lib.hid hm
    have HF := Lib.hid hf
    obtain ⟨r1, r2, _⟩ := hr
    clear hm hf
    go_enter Try.func98, Try.ntmps98
    go_wp2_with fail
    refine (rmay_eq HM.out h1 h2 _).mono ?_
    rintro e w1 ⟨rfl, rfl⟩
    go_wp2
    go_ret
    exact ⟨by rw [HF.out]; rfl, rfl⟩
  | false =>
    have hf : Se.quorum n = 0 := by rw [Se.quorum, hm]; rfl
    have HM := Lib.hid hm
    have HF := Lib.hid hf
    clear hm hf
    go_enter Try.func98, Try.ntmps98
    go_wp2_with fail
    refine (rmay_eq HM.out h1 h2 _).mono ?_
    rintro e w1 ⟨rfl, rfl⟩
    go_wp2
    go_ret
    exact ⟨by rw [HF.out]; rfl, rfl⟩
set_option maxHeartbeats 1000000 in
theorem pmay_any (n : Int) (h1 : -9223372036854775808 ≤ n) (h2 : n ≤ 9223372036854775807) (w : World) :
    Calls Try.prog 89 #[.int .i64 n] w fun e w' => e = .returned (.bool (Se.may n)) ∧ w = w' := by
  by_cases hb : 4 ≤ n
  · have t1 : decide (4 ≤ n) = true := by simpa using hb
    by_cases hc : n ≤ 64
    · have t2 : decide (n ≤ 64) = true := by simpa using hc
      have hm : Se.may n = (n % 3 == 1) := by
        unfold Se.may
        rw [Bool.eq_iff_iff]
        simp only [Bool.and_eq_true, decide_eq_true_iff, beq_iff_eq]
        omega
      have HM := Lib.hid hm
      clear hm
      go_enter Try.func89, Try.ntmps89
      go_wp2
      go_ret
      exact ⟨by rw [HM.out]; rfl, rfl⟩
    · have hm : Se.may n = false := by simp [Se.may]; omega
      have t2 : decide (n ≤ 64) = false := by simpa using hc
      have HM := Lib.hid hm
      clear hm hb hc
      go_enter Try.func89, Try.ntmps89
      go_wp2
      go_ret
      exact ⟨by rw [HM.out]; rfl, rfl⟩
  · have hm : Se.may n = false := by simp [Se.may]; omega
    have t1 : decide (4 ≤ n) = false := by simpa using hb
    have HM := Lib.hid hm
    clear hm hb
    go_enter Try.func89, Try.ntmps89
    go_wp2
    go_ret
    exact ⟨by rw [HM.out]; rfl, rfl⟩

theorem pmay_eq {n : Int} {b : Bool} (h : Se.may n = b) (h1 : -9223372036854775808 ≤ n) (h2 : n ≤ 9223372036854775807) (w : World) :
    Calls Try.prog 89 #[.int .i64 n] w fun e w' => e = .returned (.bool b) ∧ w = w' := by subst h; exact pmay_any n h1 h2 w

set_option maxHeartbeats 1000000 in
theorem pfaults_any (n : Int) (h1 : -9223372036854775808 ≤ n) (h2 : n ≤ 9223372036854775807) (w : World) :
    Calls Try.prog 121 #[.int .i64 n] w fun e w' => e = .returned (.int .i64 (Se.faults n)) ∧ w = w' := by
  cases hm : Se.may n with
  | true =>
    have hr := may_range hm
    have hf : Se.faults n = (n - 1) / 3 := by rw [Se.faults, if_pos hm]
    have HM := Lib.hid hm
    have HF := Lib.hid hf
    obtain ⟨r1, r2, _⟩ := hr
    clear hm hf
    go_enter Try.func121, Try.ntmps121
    go_wp2_with fail
    refine (pmay_eq HM.out h1 h2 _).mono ?_
    rintro e w1 ⟨rfl, rfl⟩
    go_wp2
    go_ret
    exact ⟨by rw [HF.out]; rfl, rfl⟩
  | false =>
    have hf : Se.faults n = 0 := by rw [Se.faults, hm]; rfl
    have HM := Lib.hid hm
    have HF := Lib.hid hf
    clear hm hf
    go_enter Try.func121, Try.ntmps121
    go_wp2_with fail
    refine (pmay_eq HM.out h1 h2 _).mono ?_
    rintro e w1 ⟨rfl, rfl⟩
    go_wp2
    go_ret
    exact ⟨by rw [HF.out]; rfl, rfl⟩
theorem pfaults_eq {n m : Int} (h : Se.faults n = m) (h1 : -9223372036854775808 ≤ n) (h2 : n ≤ 9223372036854775807) (w : World) :
    Calls Try.prog 121 #[.int .i64 n] w fun e w' => e = .returned (.int .i64 m) ∧ w = w' := by subst h; exact pfaults_any n h1 h2 w
set_option maxHeartbeats 1000000 in
theorem pquorum_any (n : Int) (h1 : -9223372036854775808 ≤ n) (h2 : n ≤ 9223372036854775807) (w : World) :
    Calls Try.prog 104 #[.int .i64 n] w fun e w' => e = .returned (.int .i64 (Se.quorum n)) ∧ w = w' := by
  cases hm : Se.may n with
  | true =>
    have hr := may_range hm
    have hf : Se.quorum n = n - (n - 1) / 3 := by rw [Se.quorum, if_pos hm]
    have hg : Se.faults n = (n - 1) / 3 := by rw [Se.faults, if_pos hm]
    have HM := Lib.hid hm
    have HF := Lib.hid hf
    have HG := Lib.hid hg
    obtain ⟨r1, r2, _⟩ := hr
    clear hm hf hg
    go_enter Try.func104, Try.ntmps104
    go_wp2_with fail
    refine (pmay_eq HM.out h1 h2 _).mono ?_
    rintro e w1 ⟨rfl, rfl⟩
    go_wp2_with fail
    refine (pfaults_eq HG.out h1 h2 _).mono ?_
    rintro e w1 ⟨rfl, rfl⟩
    go_wp2
    go_ret
    exact ⟨by rw [HF.out]; rfl, rfl⟩
  | false =>
    have hf : Se.quorum n = 0 := by rw [Se.quorum, hm]; rfl
    have HM := Lib.hid hm
    have HF := Lib.hid hf
    clear hm hf
    go_enter Try.func104, Try.ntmps104
    go_wp2_with fail
    refine (pmay_eq HM.out h1 h2 _).mono ?_
    rintro e w1 ⟨rfl, rfl⟩
    go_wp2
    go_ret
    exact ⟨by rw [HF.out]; rfl, rfl⟩
end Go.Proofs.Ytbkpekpajeaacaa
/- Package vertex as it landed, and the document's: rounds, shares; what a vertex's own cells are. -/
namespace Go.Proofs.Ytbkpekpajeaacaa
open Go.RowKit

theorem info_txs : (Try.prog.info? 9).map (fun i => (i.zero, i.size, i.bytes)) = some (some (.string ⟨#[]⟩), 1, 16) := by kernel_rfl
/-- An element as a value. -/
abbrev el (a b : Int) : Value := .agg #[.int .i64 a, .int .i64 b]
theorem eq_el (a b c d : Int) (w : World) : (Op.equalIn 10000 25 (el a b) (el c d)).run Try.prog w = .ok (a == c && b == d) w := by
  have hS : Try.prog.underlying 25 = some (.struct (Try.prog.fieldsOf 25)) := by kernel_rfl
  have hp : Try.prog.stoodInHeld 25 = false := by kernel_rfl
  have u1 := Try.underlying3
  rw [show (10000 : Nat) = 9999 + 1 from rfl, run_equalIn_agg w 9999 25 _ _ hS hp]
  simp only [Program.fieldsOf, Try.underlying25]
  go_simp
  by_cases h1 : a = c <;> by_cases h2 : b = d <;> simp [h1, h2]
theorem guard_el (op : BinOp) (o1 o2 : Operand) (xs ys : Array Value) (w : World) : (eqGuard op 25 o1 o2 (.agg xs) (.agg ys)).run Try.prog w = .ok () w := run_eqGuard_agg w op 25 o1 o2 xs ys (by kernel_rfl)
theorem build_el (a b : Int) (w : World) : (Instr.build 25 #[(0, .int .i64 a), (1, .int .i64 b)]).run Try.prog w = .ok (el a b) w := run_build w 25 _ _ (by kernel_rfl)
theorem build_el0 (w : World) : (Instr.build 25 #[]).run Try.prog w = .ok (el 0 0) w := run_build w 25 _ _ (by kernel_rfl)
attribute [local go_sem] build_el build_el0 eq_el guard_el

theorem pelmay (a b : Int) (w : World) : Calls Try.prog 115 #[el a b] w fun e w' => e = .returned (.bool (Vt.elemMay a b)) ∧ Below w.heap.size w w' := by
  have HG := Lib.hid (show Below w.heap.size w (w.alloc (.cells #[.int .i64 a, .int .i64 b] 25)) from (Below.refl _ _).alloc (Nat.le_refl _) _)
  by_cases h1 : 0 ≤ a
  · have t1 : decide (0 ≤ a) = true := by simpa using h1
    by_cases h2 : a < 10007
    · have t2 : decide (a < 10007) = true := by simpa using h2
      by_cases h3 : 0 ≤ b
      · have t3 : decide (0 ≤ b) = true := by simpa using h3
        have e : Vt.elemMay a b = decide (b < 10007) := by rw [Vt.elemMay, decide_eq_decide]; omega
        rw [e]
        clear e h1 h2 h3
        go_enter Try.func115, Try.ntmps115
        go_wp2
        go_ret
        exact ⟨rfl, HG.out⟩
      · have t3 : decide (0 ≤ b) = false := by simpa using h3
        have e : Vt.elemMay a b = false := by rw [Vt.elemMay, decide_eq_false_iff_not]; omega
        rw [e]
        clear e h1 h2 h3
        go_enter Try.func115, Try.ntmps115
        go_wp2
        go_ret
        exact ⟨rfl, HG.out⟩
    · have t2 : decide (a < 10007) = false := by simpa using h2
      have e : Vt.elemMay a b = false := by rw [Vt.elemMay, decide_eq_false_iff_not]; omega
      rw [e]
      clear e h1 h2
      go_enter Try.func115, Try.ntmps115
      go_wp2
      go_ret
      exact ⟨rfl, HG.out⟩
  · have t1 : decide (0 ≤ a) = false := by simpa using h1
    have e : Vt.elemMay a b = false := by rw [Vt.elemMay, decide_eq_false_iff_not]; omega
    rw [e]
    clear e h1
    go_enter Try.func115, Try.ntmps115
    go_wp2
    go_ret
    exact ⟨rfl, HG.out⟩

theorem relmay (a b : Int) (w : World) : Calls Try.prog 100 #[el a b] w fun e w' => e = .returned (.bool (Vt.elemMay a b)) ∧ Below w.heap.size w w' := by
  have HG := Lib.hid (show Below w.heap.size w (w.alloc (.cells #[.int .i64 a, .int .i64 b] 25)) from (Below.refl _ _).alloc (Nat.le_refl _) _)
  by_cases h1 : 0 ≤ a
  · have t1 : decide (0 ≤ a) = true := by simpa using h1
    by_cases h2 : a < 10007
    · have t2 : decide (a < 10007) = true := by simpa using h2
      by_cases h3 : 0 ≤ b
      · have t3 : decide (0 ≤ b) = true := by simpa using h3
        have e : Vt.elemMay a b = decide (b < 10007) := by rw [Vt.elemMay, decide_eq_decide]; omega
        rw [e]
        clear e h1 h2 h3
        go_enter Try.func100, Try.ntmps100
        go_wp2
        go_ret
        exact ⟨rfl, HG.out⟩
      · have t3 : decide (0 ≤ b) = false := by simpa using h3
        have e : Vt.elemMay a b = false := by rw [Vt.elemMay, decide_eq_false_iff_not]; omega
        rw [e]
        clear e h1 h2 h3
        go_enter Try.func100, Try.ntmps100
        go_wp2
        go_ret
        exact ⟨rfl, HG.out⟩
    · have t2 : decide (a < 10007) = false := by simpa using h2
      have e : Vt.elemMay a b = false := by rw [Vt.elemMay, decide_eq_false_iff_not]; omega
      rw [e]
      clear e h1 h2
      go_enter Try.func100, Try.ntmps100
      go_wp2
      go_ret
      exact ⟨rfl, HG.out⟩
  · have t1 : decide (0 ≤ a) = false := by simpa using h1
    have e : Vt.elemMay a b = false := by rw [Vt.elemMay, decide_eq_false_iff_not]; omega
    rw [e]
    clear e h1
    go_enter Try.func100, Try.ntmps100
    go_wp2
    go_ret
    exact ⟨rfl, HG.out⟩

theorem pthird (r : Int) (w : World) : Calls Try.prog 116 #[.int .i64 r] w fun e w' => e = .returned (.bool (Vt.third r)) ∧ w' = w := by
  by_cases h1 : 1 ≤ r
  · have t1 : decide (1 ≤ r) = true := by simpa using h1
    have e : Vt.third r = (r % 3 == 0) := by
      rw [Vt.third, Bool.eq_iff_iff, decide_eq_true_iff, beq_iff_eq]; omega
    have E := Lib.hid e
    clear e
    have h0 : 0 ≤ r := by omega
    go_enter Try.func116, Try.ntmps116
    go_wp2
    go_ret
    exact ⟨by rw [E.out]; rfl, rfl⟩
  · have t1 : decide (1 ≤ r) = false := by simpa using h1
    have e : Vt.third r = false := by rw [Vt.third, decide_eq_false_iff_not]; omega
    rw [e]
    clear e h1
    go_enter Try.func116, Try.ntmps116
    go_wp2
    go_ret
    exact ⟨rfl, rfl⟩
theorem rthird (r : Int) (w : World) : Calls Try.prog 101 #[.int .i64 r] w fun e w' => e = .returned (.bool (Vt.third r)) ∧ w' = w := by
  by_cases h1 : 0 < r
  · have t1 : decide (0 < r) = true := by simpa using h1
    have e : Vt.third r = (r % 3 == 0) := by
      rw [Vt.third, Bool.eq_iff_iff, decide_eq_true_iff, beq_iff_eq]; omega
    have E := Lib.hid e
    clear e
    have h0 : 0 ≤ r := by omega
    go_enter Try.func101, Try.ntmps101
    go_wp2
    go_ret
    exact ⟨by rw [E.out]; rfl, rfl⟩
  · have t1 : decide (0 < r) = false := by simpa using h1
    have e : Vt.third r = false := by rw [Vt.third, decide_eq_false_iff_not]; omega
    rw [e]
    clear e h1
    go_enter Try.func101, Try.ntmps101
    go_wp2
    go_ret
    exact ⟨rfl, rfl⟩
theorem pthird_eq {r : Int} {b : Bool} (h : Vt.third r = b) (w : World) : Calls Try.prog 116 #[.int .i64 r] w fun e w' => e = .returned (.bool b) ∧ w' = w := by subst h; exact pthird r w
theorem rthird_eq {r : Int} {b : Bool} (h : Vt.third r = b) (w : World) : Calls Try.prog 101 #[.int .i64 r] w fun e w' => e = .returned (.bool b) ∧ w' = w := by subst h; exact rthird r w
theorem pelmay_eq {a b : Int} {x : Bool} (h : Vt.elemMay a b = x) (w : World) : Calls Try.prog 115 #[el a b] w fun e w' => e = .returned (.bool x) ∧ Below w.heap.size w w' := by subst h; exact pelmay a b w
theorem relmay_eq {a b : Int} {x : Bool} (h : Vt.elemMay a b = x) (w : World) : Calls Try.prog 100 #[el a b] w fun e w' => e = .returned (.bool x) ∧ Below w.heap.size w w' := by subst h; exact relmay a b w

/-- A vertex as a value. -/
abbrev vtxV (a r : Int) (b p : Value) (x y : Int) : Value := .agg #[.int .i64 a, .int .i64 r, b, p, .int .i64 x, .int .i64 y]
/-- A vertex's own cells, in a block. -/
def VBox (W : World) (B : Nat) (a r : Int) (b p : Value) (x y : Int) : Prop := W.heap[B]? = some (.cells #[.int .i64 a, .int .i64 r, b, p, .int .i64 x, .int .i64 y] 27 (0, 0))
section
variable {W W' : World} {B n : Nat} {a r x y : Int} {b p : Value}
theorem VBox.lt (h : VBox W B a r b p x y) : B < W.heap.size := (Array.getElem?_eq_some_iff.1 h).1
theorem VBox.cells (h : VBox W B a r b p x y) : W.cell? ⟨B, 0, none⟩ = some (.int .i64 a) ∧ W.cell? ⟨B, 1, none⟩ = some (.int .i64 r) ∧ W.cell? ⟨B, 2, none⟩ = some b ∧ W.cell? ⟨B, 3, none⟩ = some p ∧ W.cell? ⟨B, 4, none⟩ = some (.int .i64 x) ∧ W.cell? ⟨B, 5, none⟩ = some (.int .i64 y) := by
  have e : W.heap[B]? = _ := h
  refine ⟨?_, ?_, ?_, ?_, ?_, ?_⟩ <;> simp [World.cell?, e]
theorem VBox.free (h : VBox W B a r b p x y) : W.frozen? ⟨B, 0, none⟩ = false ∧ W.frozen? ⟨B, 1, none⟩ = false ∧ W.frozen? ⟨B, 2, none⟩ = false ∧ W.frozen? ⟨B, 3, none⟩ = false ∧ W.frozen? ⟨B, 4, none⟩ = false ∧ W.frozen? ⟨B, 5, none⟩ = false := by
  have e : W.heap[B]? = _ := h
  refine ⟨?_, ?_, ?_, ?_, ?_, ?_⟩ <;> simp [World.frozen?, e]
theorem VBox.new (W : World) (a r : Int) (b p : Value) (x y : Int) : VBox (W.alloc (.cells #[.int .i64 a, .int .i64 r, b, p, .int .i64 x, .int .i64 y] 27)) W.heap.size a r b p x y := World.alloc_heap_new W _
theorem VBox.below (h : VBox W B a r b p x y) (hb : Below n W W') (hn : B < n) : VBox W' B a r b p x y := (hb.block B hn).trans h
theorem VBox.kept (h : VBox W B a r b p x y) (hb : Below W.heap.size W W') : VBox W' B a r b p x y := h.below hb h.lt
theorem VBox.alloc (h : VBox W B a r b p x y) (o : Obj) : VBox (W.alloc o) B a r b p x y := h.below ((Below.refl _ _).alloc (Nat.le_refl _) o) h.lt
end
end Go.Proofs.Ytbkpekpajeaacaa
/- Package vertex as it landed: which batches may be a vertex's. -/
namespace Vt
theorem allB_hit (n : Int) (l : List Bt.Bat) (k : Nat) (h : k < l.length) (hw : wrongB n l[k] = true) : allB n l = false := by
  rw [allB, decide_eq_false_iff_not]
  intro hh
  rw [hh _ (List.getElem_mem h)] at hw; cases hw
theorem allB_all (n : Int) (l : List Bt.Bat) (h : ∀ j (hj : j < l.length), wrongB n l[j] = false) : allB n l = true := by
  rw [allB, decide_eq_true_iff]
  intro t ht
  obtain ⟨i, hi, rfl⟩ := List.getElem_of_mem ht
  exact h i hi
/-- A bound on each batch's texts. -/
def Small (l : List Bt.Bat) : Prop := ∀ b ∈ l, b.2.2.length ≤ 140737488351232
end Vt
namespace Go.Proofs.Ytbkpekpajeaacaa
open Go.RowKit

theorem pbmay_eq {b : Bt.Bat} {v : Value} {r : Bool} (h : Bt.may b = r) (w : World) (hv : TxAt w v b.2.2) (hl : b.2.2.length ≤ 140737488351232) :
    Calls Try.prog 93 #[batV b.1 b.2.1 v] w fun e w' => e = .returned (.bool r) ∧ Below w.heap.size w w' := by subst h; exact pbmay b.1 b.2.1 v b.2.2 w hv hl
theorem rbmay_eq {b : Bt.Bat} {v : Value} {r : Bool} (h : Bt.may b = r) (w : World) (hv : TxAt w v b.2.2) :
    Calls Try.prog 97 #[batV b.1 b.2.1 v] w fun e w' => e = .returned (.bool r) ∧ Below w.heap.size w w' := by subst h; exact rbmay b.1 b.2.1 v b.2.2 w hv

set_option maxHeartbeats 1000000 in
theorem pwrongB (b : Bt.Bat) (u : Value) (n : Int) (ad : Addr) (w : World) (hu : TxAt w u b.2.2) (hl : b.2.2.length ≤ 140737488351232) (hc : w.cell? ad = some (.int .i64 n)) :
    Calls Try.prog 113 #[batV b.1 b.2.1 u, .pointer (some ad)] w fun e w' => e = .returned (.bool (Vt.wrongB n b)) ∧ Below w.heap.size w w' := by
  have HU := Lib.hid hu
  obtain ⟨r, hr⟩ : ∃ r, Bt.may b = r := ⟨_, rfl⟩
  have hw : Vt.wrongB n b = (!r || decide (n < b.1)) := by rw [Vt.wrongB, hr]
  rw [hw]
  have HR := Lib.hid hr
  clear hw hr
  obtain ⟨o, q, l⟩ := b
  obtain ⟨av, cv, rfl⟩ := hu.len
  simp only [] at HU hl
  have BX := Lib.hid (BBox.new w o q (.slice av l.length cv))
  have HG := Lib.hid (show Below w.heap.size w (w.alloc (.cells #[.int .i64 o, .int .i64 q, .slice av l.length cv] 105)) from (Below.refl _ _).alloc (Nat.le_refl _) _)
  have HC := Lib.hid hc
  clear hu hc
  simp only [batV]
  go_enter Try.func113, Try.ntmps113
  go_wp2_with fail
  refine (pbmay_eq (b := (o, q, l)) HR.out _ (HU.out.below HG.out) hl).mono ?_
  rintro e w1 ⟨rfl, g1⟩
  have b1 := Lib.hid (BX.out.kept g1)
  obtain ⟨c0, _⟩ := b1.out.facts
  have G1 := Lib.hid (HG.out.trans (g1.mono (by simp)))
  have c1 := below_cell G1.out HC.out
  clear g1 HR
  cases r with
  | true =>
    go_wp2
    go_ret
    exact ⟨rfl, G1.out⟩
  | false =>
    go_wp2
    go_ret
    exact ⟨rfl, G1.out⟩

def idxB (n : Int) (l : List Bt.Bat) (r : Int) : Prop := (r = -1 ∧ Vt.allB n l = true) ∨ (0 ≤ r ∧ Vt.allB n l = false)

set_option maxHeartbeats 1000000 in
theorem pidxB (v : Value) (l : List Bt.Bat) (n : Int) (ad : Addr) (w : World) (hv : BtsAt w v l) (hl : l.length ≤ 140737488351232) (hs : Vt.Small l) (hc : w.cell? ad = some (.int .i64 n)) :
    Calls Try.prog 125 #[v, .func (.func 113) #[] #[.pointer (some ad)]] w fun e w' => ∃ r, e = .returned (.int .i64 r) ∧ idxB n l r ∧ Below w.heap.size w w' := by
  rcases hv.cells with ⟨rfl, a, cap, rfl⟩ | ⟨h0, b, off, cap, rfl, hcells⟩
  · clear hv
    go_enter Try.func125, Try.ntmps125
    go_wp2_with fail
    refine wp_loop_rounds 1 ?_
    rw [rounds_succ]
    go_wp2
    go_ret
    exact ⟨_, rfl, .inl ⟨rfl, by simp [Vt.allB]⟩, Below.refl _ _⟩
  · have HC := Lib.hid hcells
    have HS := Lib.hid hs
    have HD := Lib.hid hc
    clear hv hcells hs hc h0
    go_enter Try.func125, Try.ntmps125
    go_wp2_with fail
    go_loopw [5, 8] (fun _ i wr => ∃ k : Nat, i = .int .i64 k ∧ k ≤ l.length ∧ (∀ j (hj : j < l.length), j < k → Vt.wrongB n l[j] = false) ∧ Below w.heap.size w wr) (fun _ i _ => l.length - (intOf i).toNat)
    case atStart => exact ⟨0, rfl, by omega, fun _ _ h => absurd h (by omega), Below.refl _ _⟩
    case round =>
      obtain ⟨k, rfl, hk, hn, hbel⟩ := hrel
      have HN := Lib.hid hn
      have HB := Lib.hid hbel
      clear hn hbel
      by_cases hlt : k < l.length
      · obtain ⟨u, d0, d1, d2, hu⟩ := HC.out k hlt
        have c0 := below_cell HB.out d0
        have c1 := below_cell HB.out d1
        have c2 := below_cell HB.out d2
        have hcl := pwrongB l[k] u n ad wr (hu.below HB.out) (HS.out _ (List.getElem_mem hlt)) (below_cell HB.out HD.out)
        have hstep : Vt.wrongB n l[k] = false → ∀ j (hj : j < l.length), j < k + 1 → Vt.wrongB n l[j] = false := by
          intro he j hj hjk
          by_cases e : j = k
          · subst e; exact he
          · exact HN.out j hj (by omega)
        have hfound : Vt.wrongB n l[k] = true → Vt.allB n l = false := fun he => Vt.allB_hit n l k hlt he
        have HS2 := Lib.hid hstep
        have HF := Lib.hid hfound
        clear hstep hfound d0 d1 d2
        obtain ⟨x, hx⟩ : ∃ x, Vt.wrongB n l[k] = x := ⟨_, rfl⟩
        rw [hx] at hcl
        obtain ⟨av, cv, rfl⟩ := hu.len
        obtain ⟨⟨o, q, m⟩, hy⟩ : ∃ y, l[k] = y := ⟨_, rfl⟩
        rw [hy] at c0 c1 c2 hcl
        simp only [iv] at c0 c1 c2 hcl
        have HL := Lib.hid hcl
        have HX := Lib.hid hx
        clear hcl hx hy hu
        cases x with
        | true =>
          go_wp2_with fail
          refine HL.out.mono ?_
          rintro e w1 ⟨rfl, g1⟩
          have G1 := Lib.hid (grow_trans HB.out g1)
          clear g1
          go_wp2
          go_ret
          exact ⟨_, rfl, .inr ⟨by omega, HF.out HX.out⟩, G1.out⟩
        | false =>
          go_wp2_with fail
          refine HL.out.mono ?_
          rintro e w1 ⟨rfl, g1⟩
          have G1 := Lib.hid (grow_trans HB.out g1)
          clear g1
          go_wp2
          go_roundw
          case rel => exact ⟨k + 1, by go_num, hlt, HS2.out HX.out, G1.out⟩
          case measure => simp [intOf]; omega
      · obtain rfl : k = l.length := by omega
        have HF := Lib.hid (Vt.allB_all n l fun j hj => HN.out j hj hj)
        go_wp2
        go_ret
        exact ⟨_, rfl, .inl ⟨rfl, HF.out⟩, HB.out⟩

set_option maxHeartbeats 1000000 in
theorem pcontB (v : Value) (l : List Bt.Bat) (n : Int) (ad : Addr) (w : World) (hv : BtsAt w v l) (hl : l.length ≤ 140737488351232) (hs : Vt.Small l) (hc : w.cell? ad = some (.int .i64 n)) :
    Calls Try.prog 114 #[v, .func (.func 113) #[] #[.pointer (some ad)]] w fun e w' => e = .returned (.bool (!Vt.allB n l)) ∧ Below w.heap.size w w' := by
  have hi := pidxB v l n ad w hv hl hs hc
  have HI := Lib.hid hi
  clear hv hs hi hc
  cases hm : Vt.allB n l with
  | true =>
    have hx : ∀ r, idxB n l r → r = -1 := fun r hr => by
      rcases hr with ⟨h, _⟩ | ⟨_, h⟩
      · exact h
      · rw [hm] at h; cases h
    have HX := Lib.hid hx
    clear hx hm
    go_enter Try.func114, Try.ntmps114
    go_wp2_with fail
    refine HI.out.mono ?_
    rintro e w1 ⟨r, rfl, hr, hb⟩
    obtain rfl := HX.out r hr
    clear hr
    go_wp2
    go_ret
    exact ⟨rfl, hb⟩
  | false =>
    have hx : ∀ r, idxB n l r → decide (0 ≤ r) = true := fun r hr => by
      rcases hr with ⟨_, h⟩ | ⟨h, _⟩
      · rw [hm] at h; cases h
      · simpa using h
    have HX := Lib.hid hx
    clear hx hm
    go_enter Try.func114, Try.ntmps114
    go_wp2_with fail
    refine HI.out.mono ?_
    rintro e w1 ⟨r, rfl, hr, hb⟩
    have t1 := HX.out r hr
    clear hr
    go_wp2
    go_ret
    exact ⟨rfl, hb⟩

set_option maxHeartbeats 1000000 in
theorem pmayB (v : Value) (l : List Bt.Bat) (n : Int) (w : World) (hv : BtsAt w v l) (hl : l.length ≤ 140737488351232) (hs : Vt.Small l) :
    Calls Try.prog 90 #[v, .int .i64 n] w fun e w' => e = .returned (.bool (Vt.mayB n l)) ∧ Below w.heap.size w w' := by
  obtain ⟨aa, ca, rfl⟩ := hv.len
  have HG := Lib.hid (show Below w.heap.size w (w.alloc (.cells #[.int .i64 n] 3)) from (Below.refl _ _).alloc (Nat.le_refl _) _)
  by_cases h4 : l.length ≤ 4
  · have e : Vt.mayB n l = Vt.allB n l := by rw [Vt.mayB, decide_eq_true h4, Bool.true_and]
    rw [e]
    have t1 : decide ((l.length : Int) ≤ 4) = true := decide_eq_true (by omega)
    have hcc := pcontB (.slice aa l.length ca) l n ⟨w.heap.size, 0, none⟩ _ (hv.below HG.out) hl hs (by simp)
    obtain ⟨x, hx⟩ : ∃ x, Vt.allB n l = x := ⟨_, rfl⟩
    rw [hx] at hcc ⊢
    have HC := Lib.hid hcc
    clear hcc e hx hv hs
    go_enter Try.func90, Try.ntmps90
    go_wp2_with fail
    refine HC.out.mono ?_
    rintro e w1 ⟨rfl, g1⟩
    have G1 := Lib.hid (HG.out.trans (g1.mono (by simp)))
    clear g1
    cases x with
    | true =>
      go_wp2
      go_ret
      exact ⟨rfl, G1.out⟩
    | false =>
      go_wp2
      go_ret
      exact ⟨rfl, G1.out⟩
  · have e : Vt.mayB n l = false := by rw [Vt.mayB, decide_eq_false h4, Bool.false_and]
    rw [e]
    have t1 : decide ((l.length : Int) ≤ 4) = false := decide_eq_false (by omega)
    clear e hv hs h4
    go_enter Try.func90, Try.ntmps90
    go_wp2
    go_ret
    exact ⟨rfl, HG.out⟩
end Go.Proofs.Ytbkpekpajeaacaa
/- Package vertex as it landed: which parents, and which share, may be a vertex's. -/
namespace Vt
theorem mayP_one (n : Int) (l : List (List UInt8)) : mayP 1 n l = (l.length == 0) := by rw [mayP, if_pos rfl, Bool.eq_iff_iff, decide_eq_true_iff, beq_iff_eq]
theorem mayP_short {r n : Int} {l : List (List UInt8)} (hr : r ≠ 1) (h : (l.length : Int) < Se.quorum n ∨ n < l.length) : mayP r n l = false := by
  rw [mayP, if_neg hr, decide_eq_false (by omega), Bool.false_and]
open Classical in
theorem mayP_no {r n : Int} {l : List (List UInt8)} (hr : r ≠ 1) (i : Nat) (h : ¬ okP l i) : mayP r n l = false := by
  rw [mayP, if_neg hr, decide_eq_false (p := asc l) (fun ha => h (ha i)), Bool.and_false]
open Classical in
theorem mayP_yes {r n : Int} {l : List (List UInt8)} (hr : r ≠ 1) (h1 : Se.quorum n ≤ l.length) (h2 : (l.length : Int) ≤ n) (h : ∀ i, i < l.length → okP l i) : mayP r n l = true := by
  rw [mayP, if_neg hr, decide_eq_true (And.intro h1 h2), decide_eq_true (p := asc l) (fun i hi => h i hi hi), Bool.and_true]
theorem okP_len {l : List (List UInt8)} {i : Nat} (hi : i < l.length) (h : l[i].length ≠ 32) : ¬ okP l i := fun hh => h (hh hi).1
theorem okP_less {l : List (List UInt8)} {i : Nat} (hi : i < l.length) (h0 : 0 < i) (h : Dg.less l[i - 1] l[i] = false) : ¬ okP l i := fun hh => by
  have := (hh hi).2 h0
  rw [h] at this; cases this
end Vt
namespace Go.Proofs.Ytbkpekpajeaacaa
open Go.RowKit
theorem bytesLess_eq : ∀ a b : List UInt8, Op.bytesLess a b = Dg.less a b := by
  intro a
  induction a with
  | nil => intro b; cases b <;> rfl
  | cons x a ih =>
    intro b
    cases b with
    | nil => rfl
    | cons y b =>
      rw [Op.bytesLess, Dg.less, ih]
      by_cases e : x = y
      · subst e; simp
      · simp [e, UInt8.lt_iff_toNat_lt]
theorem binOp_string_geq (t : TypeId) (a b : ByteArray) : binOp .geq t (.string a) (.string b) = pure (.bool !(Op.bytesLess a.toList b.toList)) := by simp [binOp, Op.stringOp]
attribute [local go_sem] binOp_string_geq
attribute [local go_sem] build_el build_el0 eq_el guard_el

theorem pquorum_eq {n q : Int} (h : Se.quorum n = q) (h1 : -9223372036854775808 ≤ n) (h2 : n ≤ 9223372036854775807) (w : World) :
    Calls Try.prog 104 #[.int .i64 n] w fun e w' => e = .returned (.int .i64 q) ∧ w' = w := by
  subst h; exact (pquorum_any n h1 h2 w).mono fun e w' ⟨he, hw⟩ => ⟨he, hw.symm⟩

set_option maxHeartbeats 2000000 in
theorem pmayP (a r x y n : Int) (bv pv : Value) (ps : List (List UInt8)) (w : World) (hp : TxAt w pv ps) (hl : ps.length ≤ 140737488351232) (n1 : -9223372036854775808 ≤ n) (n2 : n ≤ 9223372036854775807) :
    Calls Try.prog 91 #[vtxV a r bv pv x y, .int .i64 n] w fun e w' => e = .returned (.bool (Vt.mayP r n ps)) ∧ Below w.heap.size w w' := by
  have VB := Lib.hid (VBox.new w a r bv pv x y)
  have HG := Lib.hid (show Below w.heap.size w (w.alloc (.cells #[.int .i64 a, .int .i64 r, bv, pv, .int .i64 x, .int .i64 y] 27)) from (Below.refl _ _).alloc (Nat.le_refl _) _)
  obtain ⟨ap, cp, hpe⟩ := hp.len
  have HP := Lib.hid hp
  by_cases h1 : r = 1
  · subst h1
    subst hpe
    rw [Vt.mayP_one]
    have e : ((ps.length : Int) == 0) = (ps.length == 0) := by rw [Bool.eq_iff_iff, beq_iff_eq, beq_iff_eq]; omega
    rw [← e]
    clear hp e
    go_enter Try.func91, Try.ntmps91
    go_wp2
    go_ret
    exact ⟨rfl, HG.out⟩
  have t1 : (r == 1) = false := by rw [beq_eq_false_iff_ne]; exact h1
  have H1 := Lib.hid h1
  obtain ⟨q, hq⟩ : ∃ q, Se.quorum n = q := ⟨_, rfl⟩
  have HQ := Lib.hid hq
  clear h1 hq
  by_cases h2 : (ps.length : Int) < q
  · subst hpe
    rw [Vt.mayP_short H1.out (.inl (by rw [HQ.out]; exact h2))]
    have t2 : decide ((ps.length : Int) < q) = true := decide_eq_true h2
    clear hp h2
    go_enter Try.func91, Try.ntmps91
    go_wp2_with fail
    go_quiet ((go_at_call 104; exact Calls.quiet_of_same (pquorum_eq HQ.out n1 n2 _)))
    go_wp2
    go_ret
    exact ⟨rfl, below_drewN HG.out _⟩
  have t2 : decide ((ps.length : Int) < q) = false := decide_eq_false h2
  by_cases h3 : n < (ps.length : Int)
  · subst hpe
    rw [Vt.mayP_short H1.out (.inr h3)]
    have t3 : decide (n < (ps.length : Int)) = true := decide_eq_true h3
    clear hp h2 h3
    go_enter Try.func91, Try.ntmps91
    go_wp2_with fail
    go_quiet ((go_at_call 104; exact Calls.quiet_of_same (pquorum_eq HQ.out n1 n2 _)))
    go_wp2
    go_ret
    exact ⟨rfl, below_drewN HG.out _⟩
  have t3 : decide (n < (ps.length : Int)) = false := decide_eq_false h3
  have HY := Lib.hid (fun h => Vt.mayP_yes (l := ps) H1.out (show Se.quorum n ≤ ps.length by rw [HQ.out]; omega) (show (ps.length : Int) ≤ n by omega) h)
  have HN := Lib.hid (fun i h => Vt.mayP_no (n := n) (l := ps) H1.out i h)
  clear h2 h3 hpe
  rcases hp with ⟨aa, cap, rfl, rfl⟩ | ⟨b, off, cap, rfl, hc⟩
  · rw [HY.out (fun i h => absurd h (by simp))]
    have t4 : decide (0 < q) = false := by simpa using t2
    have t5 : decide (n < 0) = false := by simpa using t3
    clear HY HN H1
    go_enter Try.func91, Try.ntmps91
    go_wp2_with fail
    go_quiet ((go_at_call 104; exact Calls.quiet_of_same (pquorum_eq HQ.out n1 n2 _)))
    go_wp2_with fail
    refine wp_loop_rounds 1 ?_
    rw [rounds_succ]
    go_wp2
    go_ret
    exact ⟨rfl, below_drewN HG.out _⟩
  have HC := Lib.hid hc
  clear hc H1
  go_enter Try.func91, Try.ntmps91
  go_wp2_with fail
  go_quiet ((go_at_call 104; exact Calls.quiet_of_same (pquorum_eq HQ.out n1 n2 _)))
  go_wp2_with fail
  go_loopw [5, 6, 30] (fun _ _ i wr => ∃ k : Nat, i = .int .i64 k ∧ k ≤ ps.length ∧ (∀ j, j < k → Vt.okP ps j) ∧ ∃ d, wr = (w.alloc (.cells #[.int .i64 a, .int .i64 r, bv, .slice (some ⟨b, off, none⟩) ps.length cap, .int .i64 x, .int .i64 y] 27)).drewN d) (fun _ _ i _ => ps.length - (intOf i).toNat)
  case atStart => exact ⟨0, rfl, by omega, fun _ h => absurd h (by omega), _, rfl⟩
  case round =>
    obtain ⟨k, rfl, hk, hn, d, rfl⟩ := hrel
    have HO := Lib.hid hn
    clear hn
    by_cases hlt : k < ps.length
    · have c1 := below_cell HG.out (HC.out k hlt)
      by_cases e32 : ps[k].length = 32
      · have t4 : ((ps[k].length : Int) != 32) = false := by rw [e32]; rfl
        by_cases e0 : k = 0
        · subst e0
          have hok : ∀ j, j < 0 + 1 → Vt.okP ps j := fun j hj => by
            obtain rfl : j = 0 := by omega
            exact fun _ => ⟨e32, fun h => absurd h (by omega)⟩
          have HK := Lib.hid hok
          simp only [Nat.add_zero] at c1
          clear hok e32
          generalize ps[0] = z at *
          go_wp2
          go_roundw
          case rel => exact ⟨0 + 1, by go_num, hlt, HK.out, _, rfl⟩
          case measure => simp [intOf]; omega
        · have t5 : decide ((0 : Int) < k) = true := decide_eq_true (by omega)
          have c2 := below_cell HG.out (HC.out (k - 1) (by omega))
          have ek : ((k : Int) - 1) = ((k - 1 : Nat) : Int) := by omega
          cases hls : Dg.less ps[k - 1] ps[k] with
          | true =>
            have hok : ∀ j, j < k + 1 → Vt.okP ps j := fun j hj => by
              by_cases e : j = k
              · subst e; exact fun _ => ⟨e32, fun _ => hls⟩
              · exact HO.out j (by omega)
            have HK := Lib.hid hok
            have t6 : Op.bytesLess ps[k - 1] ps[k] = true := by rw [bytesLess_eq]; exact hls
            clear hok e32 hls
            generalize ps[k] = z at *
            generalize ps[k - 1] = z' at *
            go_wp2
            go_roundw
            case rel => exact ⟨k + 1, by go_num, hlt, HK.out, _, rfl⟩
            case measure => simp [intOf]; omega
          | false =>
            have E := Lib.hid (HN.out k (Vt.okP_less hlt (by omega) hls))
            have t6 : Op.bytesLess ps[k - 1] ps[k] = false := by rw [bytesLess_eq]; exact hls
            clear e32 hls
            generalize ps[k] = z at *
            generalize ps[k - 1] = z' at *
            go_wp2
            go_ret
            exact ⟨by rw [E.out]; rfl, below_drewN HG.out _⟩
      · have t4 : ((ps[k].length : Int) != 32) = true := by rw [bne_iff_ne]; omega
        have E := Lib.hid (HN.out k (Vt.okP_len hlt e32))
        clear e32
        generalize ps[k] = z at *
        go_wp2
        go_ret
        exact ⟨by rw [E.out]; rfl, below_drewN HG.out _⟩
    · obtain rfl : k = ps.length := by omega
      have E := Lib.hid (HY.out HO.out)
      go_wp2
      go_ret
      exact ⟨by rw [E.out]; rfl, below_drewN HG.out _⟩
end Go.Proofs.Ytbkpekpajeaacaa
/- Package vertex as it landed: which vertices may be. -/
namespace Vt
theorem mayS_no {r x y : Int} (h : elemMay x y = false) : mayS r x y = false := by rw [mayS, h, Bool.false_and]
theorem mayS_third {r x y : Int} (h : elemMay x y = true) (ht : third r = true) : mayS r x y = true := by rw [mayS, h, ht]; rfl
theorem mayS_zero {r x y : Int} (h : elemMay x y = true) (ht : third r = false) : mayS r x y = ((x == 0) && (y == 0)) := by
  rw [mayS, h, ht, Bool.true_and, Bool.false_or, Bool.eq_iff_iff, decide_eq_true_iff, Bool.and_eq_true, beq_iff_eq, beq_iff_eq]
end Vt
namespace Go.Proofs.Ytbkpekpajeaacaa
open Go.RowKit
attribute [local go_sem] build_el build_el0 eq_el guard_el

set_option maxHeartbeats 2000000 in
theorem pmayS (a r x y : Int) (bv pv : Value) (w : World) :
    Calls Try.prog 92 #[vtxV a r bv pv x y] w fun e w' => e = .returned (.bool (Vt.mayS r x y)) ∧ Below w.heap.size w w' := by
  have VB := Lib.hid (VBox.new w a r bv pv x y)
  have HG := Lib.hid (show Below w.heap.size w (w.alloc (.cells #[.int .i64 a, .int .i64 r, bv, pv, .int .i64 x, .int .i64 y] 27)) from (Below.refl _ _).alloc (Nat.le_refl _) _)
  cases hm : Vt.elemMay x y with
  | false =>
    rw [Vt.mayS_no hm]
    have HM := Lib.hid hm
    clear hm
    go_enter Try.func92, Try.ntmps92
    go_wp2_with fail
    refine (pelmay_eq HM.out _).mono ?_
    rintro e w1 ⟨rfl, g1⟩
    have G1 := Lib.hid (HG.out.trans (g1.mono (by simp)))
    clear g1
    go_wp2
    go_ret
    exact ⟨rfl, G1.out⟩
  | true =>
    cases ht : Vt.third r with
    | true =>
      rw [Vt.mayS_third hm ht]
      have HM := Lib.hid hm
      have HT := Lib.hid ht
      clear hm ht
      go_enter Try.func92, Try.ntmps92
      go_wp2_with fail
      refine (pelmay_eq HM.out _).mono ?_
      rintro e w1 ⟨rfl, g1⟩
      have v1 := VB.out.kept g1
      obtain ⟨c0, c1, c2, c3, c4, c5⟩ := v1.cells
      have G1 := Lib.hid (HG.out.trans (g1.mono (by simp)))
      clear g1 v1
      go_wp2_with fail
      refine (pthird_eq HT.out _).mono ?_
      rintro e w2 ⟨rfl, rfl⟩
      go_wp2
      go_ret
      exact ⟨rfl, G1.out⟩
    | false =>
      rw [Vt.mayS_zero hm ht]
      have HM := Lib.hid hm
      have HT := Lib.hid ht
      clear hm ht
      by_cases hx : x = 0
      · subst hx
        by_cases hy : y = 0
        · subst hy
          go_enter Try.func92, Try.ntmps92
          go_wp2_with fail
          refine (pelmay_eq HM.out _).mono ?_
          rintro e w1 ⟨rfl, g1⟩
          have v1 := VB.out.kept g1
          obtain ⟨c0, c1, c2, c3, c4, c5⟩ := v1.cells
          have G1 := Lib.hid (HG.out.trans (g1.mono (by simp)))
          clear g1 v1
          go_wp2_with fail
          refine (pthird_eq HT.out _).mono ?_
          rintro e w2 ⟨rfl, rfl⟩
          go_wp2
          go_ret
          exact ⟨rfl, G1.out⟩
        · have e : ((y == 0) = false) := beq_eq_false_iff_ne.2 hy
          rw [e]
          clear e
          go_enter Try.func92, Try.ntmps92
          go_wp2_with fail
          refine (pelmay_eq HM.out _).mono ?_
          rintro e w1 ⟨rfl, g1⟩
          have v1 := VB.out.kept g1
          obtain ⟨c0, c1, c2, c3, c4, c5⟩ := v1.cells
          have G1 := Lib.hid (HG.out.trans (g1.mono (by simp)))
          clear g1 v1
          go_wp2_with fail
          refine (pthird_eq HT.out _).mono ?_
          rintro e w2 ⟨rfl, rfl⟩
          go_wp2
          go_ret
          exact ⟨rfl, G1.out⟩
      · have e : ((x == 0) = false) := beq_eq_false_iff_ne.2 hx
        rw [e]
        clear e
        go_enter Try.func92, Try.ntmps92
        go_wp2_with fail
        refine (pelmay_eq HM.out _).mono ?_
        rintro e w1 ⟨rfl, g1⟩
        have v1 := VB.out.kept g1
        obtain ⟨c0, c1, c2, c3, c4, c5⟩ := v1.cells
        have G1 := Lib.hid (HG.out.trans (g1.mono (by simp)))
        clear g1 v1
        go_wp2_with fail
        refine (pthird_eq HT.out _).mono ?_
        rintro e w2 ⟨rfl, rfl⟩
        go_wp2
        go_ret
        exact ⟨rfl, G1.out⟩

theorem pmayB_eq {n : Int} {l : List Bt.Bat} {z : Bool} (h : Vt.mayB n l = z) (v : Value) (w : World) (hv : BtsAt w v l) (hl : l.length ≤ 140737488351232) (hs : Vt.Small l) :
    Calls Try.prog 90 #[v, .int .i64 n] w fun e w' => e = .returned (.bool z) ∧ Below w.heap.size w w' := by subst h; exact pmayB v l n w hv hl hs
theorem pmayP_eq {r n : Int} {ps : List (List UInt8)} {z : Bool} (h : Vt.mayP r n ps = z) (a x y : Int) (bv pv : Value) (w : World) (hp : TxAt w pv ps) (hl : ps.length ≤ 140737488351232) (n1 : -9223372036854775808 ≤ n) (n2 : n ≤ 9223372036854775807) :
    Calls Try.prog 91 #[vtxV a r bv pv x y, .int .i64 n] w fun e w' => e = .returned (.bool z) ∧ Below w.heap.size w w' := by subst h; exact pmayP a r x y n bv pv ps w hp hl n1 n2
theorem pmayS_eq {r x y : Int} {z : Bool} (h : Vt.mayS r x y = z) (a : Int) (bv pv : Value) (w : World) :
    Calls Try.prog 92 #[vtxV a r bv pv x y] w fun e w' => e = .returned (.bool z) ∧ Below w.heap.size w w' := by subst h; exact pmayS a r x y bv pv w

set_option maxHeartbeats 4000000 in
theorem pvmay (v : Vt.Vtx) (bv pv : Value) (n : Int) (w : World) (hb : BtsAt w bv v.2.2.1) (hp : TxAt w pv v.2.2.2.1) (lb : v.2.2.1.length ≤ 140737488351232) (hs : Vt.Small v.2.2.1) (lp : v.2.2.2.1.length ≤ 140737488351232) (n1 : -9223372036854775808 ≤ n) (n2 : n ≤ 9223372036854775807) :
    Calls Try.prog 61 #[vtxV v.1 v.2.1 bv pv v.2.2.2.2.1 v.2.2.2.2.2, .int .i64 n] w fun e w' => e = .returned (.bool (Vt.may v n)) ∧ Below w.heap.size w w' := by
  obtain ⟨a, r, bs, ps, x, y⟩ := v
  simp only [] at hb hp lb hs lp ⊢
  have VB := Lib.hid (VBox.new w a r bv pv x y)
  have HG := Lib.hid (show Below w.heap.size w (w.alloc (.cells #[.int .i64 a, .int .i64 r, bv, pv, .int .i64 x, .int .i64 y] 27)) from (Below.refl _ _).alloc (Nat.le_refl _) _)
  have HB := Lib.hid hb
  have HP := Lib.hid hp
  have HS := Lib.hid hs
  obtain ⟨ab, cb, rfl⟩ := hb.len
  obtain ⟨ap, cp, rfl⟩ := hp.len
  clear hb hp hs
  simp only [Vt.may]
  obtain ⟨z0, hz0⟩ : ∃ z, Se.may n = z := ⟨_, rfl⟩
  obtain ⟨z1, hz1⟩ : ∃ z, Vt.mayB n bs = z := ⟨_, rfl⟩
  obtain ⟨z2, hz2⟩ : ∃ z, Vt.mayP r n ps = z := ⟨_, rfl⟩
  obtain ⟨z3, hz3⟩ : ∃ z, Vt.mayS r x y = z := ⟨_, rfl⟩
  rw [hz0, hz1, hz2, hz3]
  have Z0 := Lib.hid hz0
  have Z1 := Lib.hid hz1
  have Z2 := Lib.hid hz2
  have Z3 := Lib.hid hz3
  clear hz0 hz1 hz2 hz3
  cases z0 with
  | false =>
    simp only [Bool.false_and]
    go_enter Try.func61, Try.ntmps61
    go_wp2_with fail
    refine (pmay_eq Z0.out n1 n2 _).mono ?_
    rintro e w1 ⟨rfl, rfl⟩
    go_wp2
    go_ret
    exact ⟨rfl, HG.out⟩
  | true =>
  simp only [Bool.true_and]
  by_cases h1 : 1 ≤ a
  case neg =>
    rw [decide_eq_false (show ¬ (1 ≤ a ∧ a ≤ n) by omega)]
    simp only [Bool.false_and]
    have t1 : decide (1 ≤ a) = false := decide_eq_false h1
    clear h1
    go_enter Try.func61, Try.ntmps61
    go_wp2_with fail
    refine (pmay_eq Z0.out n1 n2 _).mono ?_
    rintro e w1 ⟨rfl, rfl⟩
    go_wp2
    go_ret
    exact ⟨rfl, HG.out⟩
  have t1 : decide (1 ≤ a) = true := decide_eq_true h1
  by_cases h2 : a ≤ n
  case neg =>
    rw [decide_eq_false (show ¬ (1 ≤ a ∧ a ≤ n) by omega)]
    simp only [Bool.false_and]
    have t2 : decide (a ≤ n) = false := decide_eq_false h2
    clear h1 h2
    go_enter Try.func61, Try.ntmps61
    go_wp2_with fail
    refine (pmay_eq Z0.out n1 n2 _).mono ?_
    rintro e w1 ⟨rfl, rfl⟩
    go_wp2
    go_ret
    exact ⟨rfl, HG.out⟩
  have t2 : decide (a ≤ n) = true := decide_eq_true h2
  rw [decide_eq_true (show 1 ≤ a ∧ a ≤ n from ⟨h1, h2⟩), Bool.true_and]
  by_cases h3 : 1 ≤ r
  case neg =>
    rw [decide_eq_false (show ¬ (1 ≤ r ∧ r ≤ 1048576) by omega)]
    simp only [Bool.false_and]
    have t3 : decide (1 ≤ r) = false := decide_eq_false h3
    clear h1 h2 h3
    go_enter Try.func61, Try.ntmps61
    go_wp2_with fail
    refine (pmay_eq Z0.out n1 n2 _).mono ?_
    rintro e w1 ⟨rfl, rfl⟩
    go_wp2
    go_ret
    exact ⟨rfl, HG.out⟩
  have t3 : decide (1 ≤ r) = true := decide_eq_true h3
  by_cases h4 : r ≤ 1048576
  case neg =>
    rw [decide_eq_false (show ¬ (1 ≤ r ∧ r ≤ 1048576) by omega)]
    simp only [Bool.false_and]
    have t4 : decide (r ≤ 1048576) = false := decide_eq_false h4
    clear h1 h2 h3 h4
    go_enter Try.func61, Try.ntmps61
    go_wp2_with fail
    refine (pmay_eq Z0.out n1 n2 _).mono ?_
    rintro e w1 ⟨rfl, rfl⟩
    go_wp2
    go_ret
    exact ⟨rfl, HG.out⟩
  have t4 : decide (r ≤ 1048576) = true := decide_eq_true h4
  rw [decide_eq_true (show 1 ≤ r ∧ r ≤ 1048576 from ⟨h3, h4⟩), Bool.true_and]
  clear h1 h2 h3 h4
  go_enter Try.func61, Try.ntmps61
  go_wp2_with fail
  refine (pmay_eq Z0.out n1 n2 _).mono ?_
  rintro e w1 ⟨rfl, rfl⟩
  go_wp2_with fail
  refine (pmayB_eq Z1.out _ _ (HB.out.below HG.out) lb HS.out).mono ?_
  rintro e w1 ⟨rfl, g1⟩
  have v1 := Lib.hid (VB.out.kept g1)
  obtain ⟨c0, c1, c2, c3, c4, c5⟩ := v1.out.cells
  have G1 := Lib.hid (HG.out.trans (g1.mono (by simp)))
  clear g1
  cases z1 with
  | false =>
    go_wp2
    go_ret
    exact ⟨rfl, G1.out⟩
  | true =>
  go_wp2_with fail
  refine (pmayP_eq Z2.out a x y _ _ _ (HP.out.below G1.out) lp n1 n2).mono ?_
  rintro e w2 ⟨rfl, g2⟩
  have v2 := Lib.hid (v1.out.kept g2)
  clear c0 c1 c2 c3 c4 c5
  obtain ⟨c0, c1, c2, c3, c4, c5⟩ := v2.out.cells
  have G2 := Lib.hid (grow_trans G1.out g2)
  clear g2
  cases z2 with
  | false =>
    go_wp2
    go_ret
    exact ⟨rfl, G2.out⟩
  | true =>
  go_wp2_with fail
  refine (pmayS_eq Z3.out a _ _ _).mono ?_
  rintro e w3 ⟨rfl, g3⟩
  have G3 := Lib.hid (grow_trans G2.out g3)
  clear g3
  go_wp2
  go_ret
  exact ⟨rfl, G3.out⟩
theorem pvmay_eq {v : Vt.Vtx} {n : Int} {z : Bool} (h : Vt.may v n = z) (bv pv : Value) (w : World) (hb : BtsAt w bv v.2.2.1) (hp : TxAt w pv v.2.2.2.1) (lb : v.2.2.1.length ≤ 140737488351232) (hs : Vt.Small v.2.2.1) (lp : v.2.2.2.1.length ≤ 140737488351232) (n1 : -9223372036854775808 ≤ n) (n2 : n ≤ 9223372036854775807) :
    Calls Try.prog 61 #[vtxV v.1 v.2.1 bv pv v.2.2.2.2.1 v.2.2.2.2.2, .int .i64 n] w fun e w' => e = .returned (.bool z) ∧ Below w.heap.size w w' := by subst h; exact pvmay v bv pv n w hb hp lb hs lp n1 n2
end Go.Proofs.Ytbkpekpajeaacaa
/- Package vertex as it landed: all batches as bytes. -/
namespace Go.Proofs.Ytbkpekpajeaacaa
open Go.RowKit

theorem pbbytes_eq {b : Bt.Bat} {v : Value} {R : List UInt8 × Nat} (h : Bt.bytesR b = R) (w : World) (hv : TxAt w v b.2.2) (hl : b.2.2.length ≤ 140737488351232) :
    Calls Try.prog 64 #[batV b.1 b.2.1 v] w fun e w' => e = .returned (.tuple #[tx R.1, .int .i64 R.2]) ∧ Below w.heap.size w w' := by subst h; exact pbbytes b.1 b.2.1 v b.2.2 w hv hl
theorem may_small {b : Bt.Bat} (h : Bt.may b = true) : b.2.2.length ≤ 140737488351232 := by
  have := (Bt.may_iff b).1 h; omega

set_option maxHeartbeats 1000000 in
theorem pbytesC (b : Bt.Bat) (u : Value) (w : World) (hu : TxAt w u b.2.2) (hm : Bt.may b = true) :
    Calls Try.prog 63 #[batV b.1 b.2.1 u] w fun e w' => e = .returned (.tuple #[tx (Bt.bytes b), .int .i64 0]) ∧ Below w.heap.size w w' := by
  have hl := may_small hm
  have HR := Lib.hid (Bt.bytesR_ok hm)
  have HU := Lib.hid hu
  obtain ⟨o, q, l⟩ := b
  obtain ⟨av, cv, rfl⟩ := hu.len
  simp only [] at HU hl
  have BX := Lib.hid (BBox.new w o q (.slice av l.length cv))
  have HG := Lib.hid (show Below w.heap.size w (w.alloc (.cells #[.int .i64 o, .int .i64 q, .slice av l.length cv] 105)) from (Below.refl _ _).alloc (Nat.le_refl _) _)
  clear hu hm
  simp only [batV]
  go_enter Try.func63, Try.ntmps63
  go_wp2_with fail
  refine (pbbytes_eq (b := (o, q, l)) HR.out _ (HU.out.below HG.out) hl).mono ?_
  rintro e w1 ⟨rfl, g1⟩
  have G1 := Lib.hid (HG.out.trans (g1.mono (by simp)))
  clear g1
  go_wp2
  go_ret2
  exact ⟨rfl, G1.out⟩

set_option maxHeartbeats 2000000 in
theorem peachB (v : Value) (l : List Bt.Bat) (w : World) (hv : BtsAt w v l) (h4 : l.length ≤ 4) (hm : ∀ b ∈ l, Bt.may b = true) :
    Calls Try.prog 62 #[v, .func (.func 63) #[] #[]] w fun e w' => ∃ u, e = .returned (.tuple #[u, .int .i64 0]) ∧ TxAt w' u (l.map Bt.bytes) ∧ Below w.heap.size w w' := by
  obtain ⟨i0, hi, hz0, hz1, hz2⟩ := info_parts info_txs
  have HM := Lib.hid hm
  clear hm
  rcases hv.cells with ⟨rfl, a, cap, rfl⟩ | ⟨h0, b, off, cap, rfl, hcells⟩
  · clear hv
    go_enter Try.func62, Try.ntmps62
    go_wp2_with fail
    refine wp_loop_rounds 1 ?_
    rw [rounds_succ]
    go_wp2
    go_ret2
    exact ⟨_, rfl, .inl ⟨_, _, rfl, rfl⟩, Below.refl _ _⟩
  have HC := Lib.hid hcells
  obtain ⟨xs, hxs⟩ : ∃ xs : Nat → List Value, ∀ k, xs k = ((l.take k).map Bt.bytes).map tx := ⟨_, fun _ => rfl⟩
  have hx0 : xs 0 = [] := by rw [hxs]; rfl
  have XS := Lib.hid hxs
  have X0 := Lib.hid hx0
  clear hv hcells h0 hxs hx0
  go_enter Try.func62, Try.ntmps62
  go_wp2_with fail
  go_loopw [6, 13] (fun v i wr => ∃ k : Nat, i = .int .i64 k ∧ k ≤ l.length ∧ Below w.heap.size w wr ∧ wr.ownsRow w.heap.size 9 1 v k (xs k)) (fun _ i _ => l.length - (intOf i).toNat)
  case atStart => exact ⟨0, rfl, by omega, Below.refl _ _, by rw [X0.out]; exact ⟨rfl, .inl ⟨rfl, rfl⟩⟩⟩
  case round =>
    obtain ⟨k, rfl, hk, hbel, hown⟩ := hrel
    have HB := Lib.hid hbel
    have HO := Lib.hid hown
    clear hbel hown
    by_cases hlt : k < l.length
    · obtain ⟨u, d0, d1, d2, hu⟩ := HC.out k hlt
      have c0 := below_cell HB.out d0
      have c1 := below_cell HB.out d1
      have c2 := below_cell HB.out d2
      have hmk := HM.out _ (List.getElem_mem hlt)
      have htk : xs k ++ [tx (Bt.bytes l[k])] = xs (k + 1) := by
        rw [XS.out, XS.out, List.take_succ_eq_append_getElem hlt, List.map_append, List.map_append]; rfl
      have HU := Lib.hid (hu.below HB.out)
      have TK := Lib.hid htk
      obtain ⟨au, cu, rfl⟩ := hu.len
      clear d0 d1 d2 hu htk
      generalize l[k] = y at *
      obtain ⟨o, q, m⟩ := y
      simp only [iv] at c0 c1 c2 HU
      have hcl := pbytesC (o, q, m) (.slice au m.length cu) (wr.alloc (.cells #[.int .i64 o, .int .i64 q, .slice au m.length cu] 105)) (HU.out.below ((Below.refl _ _).alloc (Nat.le_refl _) _)) hmk
      have HL := Lib.hid hcl
      clear hcl hmk
      generalize Bt.bytes (o, q, m) = s at *
      go_wp2_with fail
      refine HL.out.mono ?_
      rintro e w1 ⟨rfl, g1⟩
      have G1 := Lib.hid ((HB.out.alloc HB.out.size (.cells #[.int .i64 o, .int .i64 q, .slice au m.length cu] 105)).trans (g1.mono (by have := HB.out.size; simp; omega)))
      have gw : Below wr.heap.size wr w1 := ((Below.refl _ _).alloc (Nat.le_refl _) _).trans (g1.mono (by simp))
      have HO1 := Lib.hid (own_below HO.out gw (fun g hg => (HO.out.lt g hg).2))
      clear g1 gw HO
      go_wp2_with (at_builtin; refine wpList_append_own _ rfl _ _ 23 rfl w.heap.size 9 i0 (.string ⟨#[]⟩) 1 16 Try.underlying23 hi hz0 hz1 hz2 rfl (by decide) _ _ _ rfl (HO1.out.alloc _) ⟨w1.heap.size, 0, none⟩ 1 1 [tx s] rfl rfl ?c1 ?c2 ?c3 ?c4 ?c5 ?_)
      case c1 => exact new_cell _ _ rfl _ _
      case c2 => intro u hu; simp at hu; subst hu; rfl
      case c3 => unfold maxLen; omega
      case c4 => omega
      case c5 => have := G1.out.size; simp; omega
      intro v' w2 hown2 hgrow _
      rw [TK.out] at hown2
      have HO3 := Lib.hid hown2
      have hbel2 : Below w.heap.size w w2 := (G1.out.alloc G1.out.size _).grown hgrow (by have := G1.out.size; simp; omega) (fun k hk => (HO1.out.lt k hk).1)
      have HB2 := Lib.hid hbel2
      clear hown2 hgrow HO1 hbel2
      go_wp2
      go_roundw
      case rel => exact ⟨k + 1, by go_num, by omega, HB2.out, HO3.out⟩
      case measure => simp [intOf]; omega
    · obtain rfl : k = l.length := by omega
      have hT := HO.out
      rw [XS.out, List.take_length] at hT
      have HT := Lib.hid (TxAt.own hT)
      clear hT
      go_wp2
      go_ret2
      exact ⟨_, rfl, HT.out, HB.out⟩
end Go.Proofs.Ytbkpekpajeaacaa
/- Package vertex as it landed: a vertex's bytes. -/
namespace Go.Proofs.Ytbkpekpajeaacaa
open Go.RowKit
set_option maxRecDepth 100000

/-- An array of four texts, in a block. -/
def QBox (W : World) (A : Nat) (a b c d : Value) : Prop := W.heap[A]? = some (.cells #[a, b, c, d] 107 (0, 0))
section
variable {W W' : World} {A B n : Nat} {a b c d p q : Value} {x y r s : Int}
theorem QBox.lt (h : QBox W A a b c d) : A < W.heap.size := (Array.getElem?_eq_some_iff.1 h).1
theorem QBox.facts (h : QBox W A a b c d) : W.cell? ⟨A, 0, none⟩ = some a ∧ W.cell? ⟨A, 1, none⟩ = some b ∧ W.cell? ⟨A, 2, none⟩ = some c ∧ W.cell? ⟨A, 3, none⟩ = some d ∧ W.frozen? ⟨A, 0, none⟩ = false ∧ W.frozen? ⟨A, 1, none⟩ = false ∧ W.frozen? ⟨A, 2, none⟩ = false ∧ W.frozen? ⟨A, 3, none⟩ = false := by
  have e : W.heap[A]? = _ := h
  refine ⟨?_, ?_, ?_, ?_, ?_, ?_, ?_, ?_⟩ <;> simp [World.cell?, World.frozen?, e]
theorem QBox.new (W : World) (a b c d : Value) : QBox (W.alloc (.cells #[a, b, c, d] 107)) W.heap.size a b c d := World.alloc_heap_new W _
theorem QBox.kept (h : QBox W A a b c d) (hb : Below W.heap.size W W') : QBox W' A a b c d := (hb.block A h.lt).trans h
theorem heap_setQ {W : World} {B k : Nat} {cs : Array Value} {t : TypeId} (h : W.heap[B]? = some (.cells cs t (0, 0))) (v : Value) : (W.setCell ⟨B, k, none⟩ v).heap[B]? = some (.cells (cs.setIfInBounds k v) t (0, 0)) := by
  obtain ⟨hlt, hk⟩ := Array.getElem?_eq_some_iff.1 h
  show (W.heap.modify B _)[B]? = _
  rw [Array.getElem?_eq_getElem (by rw [Array.size_modify]; exact hlt), Array.getElem_modify_self, hk]
  rfl
theorem QBox.set0 (h : QBox W A a b c d) (v : Value) : QBox (W.setCell ⟨A, 0, none⟩ v) A v b c d := heap_setQ (k := 0) h v
theorem QBox.set1 (h : QBox W A a b c d) (v : Value) : QBox (W.setCell ⟨A, 1, none⟩ v) A a v c d := heap_setQ (k := 1) h v
theorem QBox.set2 (h : QBox W A a b c d) (v : Value) : QBox (W.setCell ⟨A, 2, none⟩ v) A a b v d := heap_setQ (k := 2) h v
theorem QBox.set3 (h : QBox W A a b c d) (v : Value) : QBox (W.setCell ⟨A, 3, none⟩ v) A a b c v := heap_setQ (k := 3) h v
theorem VBox.other (h : VBox W B x y p q r s) (hne : B ≠ A) (k : Nat) (v : Value) : VBox (W.setCell ⟨A, k, none⟩ v) B x y p q r s := (Below.heap_setCell W ⟨A, k, none⟩ v B hne).trans h
theorem below_setQ (h : Below n W W') (hB : n ≤ B) (k : Nat) (v : Value) : Below n W (W'.setCell ⟨B, k, none⟩ v) := h.setCell (p := ⟨B, k, none⟩) hB v
end
theorem cat_is (x y z : List UInt8) (hz : x ++ y = z) (h : z.length ≤ 140737488351232) (W : World) : (Op.stringOp .add (⟨x.toArray⟩ : ByteArray) ⟨y.toArray⟩).run Try.prog W = .ok (tx z) W := by
  subst hz
  exact cat_run x y (by rw [List.length_append] at h; omega) W

theorem idx4_0 (a b c d : Int) (W : World) : (Instr.index 108 (.agg #[.int .i64 a, .int .i64 b, .int .i64 c, .int .i64 d]) (.int .i64 0)).run Try.prog W = .ok (.int .i64 a) W := by kernel_rfl
theorem idx4_1 (a b c d : Int) (W : World) : (Instr.index 108 (.agg #[.int .i64 a, .int .i64 b, .int .i64 c, .int .i64 d]) (.int .i64 1)).run Try.prog W = .ok (.int .i64 b) W := by kernel_rfl
theorem idx4_2 (a b c d : Int) (W : World) : (Instr.index 108 (.agg #[.int .i64 a, .int .i64 b, .int .i64 c, .int .i64 d]) (.int .i64 2)).run Try.prog W = .ok (.int .i64 c) W := by kernel_rfl
theorem idx4_3 (a b c d : Int) (W : World) : (Instr.index 108 (.agg #[.int .i64 a, .int .i64 b, .int .i64 c, .int .i64 d]) (.int .i64 3)).run Try.prog W = .ok (.int .i64 d) W := by kernel_rfl
attribute [local go_sem] idx4_0 idx4_1 idx4_2 idx4_3
set_option maxHeartbeats 8000000 in
theorem pvbytes_ok (v : Vt.Vtx) (bv pv : Value) (n : Int) (w : World) (hb : BtsAt w bv v.2.2.1) (hp : TxAt w pv v.2.2.2.1) (n1 : -9223372036854775808 ≤ n) (n2 : n ≤ 9223372036854775807) (hm : Vt.may v n = true) :
    Calls Try.prog 33 #[vtxV v.1 v.2.1 bv pv v.2.2.2.2.1 v.2.2.2.2.2, .int .i64 n] w fun e w' => e = .returned (.tuple #[tx (Vt.bytes v), .int .i64 0]) ∧ Below w.heap.size w w' := by
  have hf := Vt.fits hm
  have hlen := Vt.bytes_len hm
  have HM := Lib.hid hm
  obtain ⟨f1, f2, a1, a2, r1, r2, b1, b2, p1, p2, x1, x2, y1, y2⟩ := hf
  obtain ⟨a, r, bs, ps, x, y⟩ := v
  simp only [] at hb hp a1 a2 r1 r2 b1 b2 p1 p2 x1 x2 y1 y2
  obtain ⟨na, hna⟩ : ∃ z, Dg.num a.toNat = z := ⟨_, rfl⟩
  obtain ⟨nr, hnr⟩ : ∃ z, Dg.num r.toNat = z := ⟨_, rfl⟩
  obtain ⟨nx, hnx⟩ : ∃ z, Dg.num x.toNat = z := ⟨_, rfl⟩
  obtain ⟨ny, hny⟩ : ∃ z, Dg.num y.toNat = z := ⟨_, rfl⟩
  obtain ⟨rb, hrb⟩ : ∃ z, Dg.row (bs.map Bt.bytes) = z := ⟨_, rfl⟩
  obtain ⟨rp, hrp⟩ : ∃ z, Dg.row ps = z := ⟨_, rfl⟩
  obtain ⟨s1, hs1⟩ : ∃ z, na ++ nr = z := ⟨_, rfl⟩
  obtain ⟨s2, hs2⟩ : ∃ z, s1 ++ rb = z := ⟨_, rfl⟩
  obtain ⟨s3, hs3⟩ : ∃ z, s2 ++ rp = z := ⟨_, rfl⟩
  obtain ⟨s4, hs4⟩ : ∃ z, s3 ++ nx = z := ⟨_, rfl⟩
  obtain ⟨s5, hs5⟩ : ∃ z, s4 ++ ny = z := ⟨_, rfl⟩
  have hall : Vt.bytes (a, r, bs, ps, x, y) = s5 := by
    simp only [Vt.bytes, hna, hnr, hnx, hny, hrb, hrp, ← hs5, ← hs4, ← hs3, ← hs2, ← hs1, List.append_assoc]
  rw [hall] at hlen ⊢
  have l5 : s5.length = s4.length + ny.length := by rw [← hs5, List.length_append]
  have l4 : s4.length = s3.length + nx.length := by rw [← hs4, List.length_append]
  have l3 : s3.length = s2.length + rp.length := by rw [← hs3, List.length_append]
  have l2 : s2.length = s1.length + rb.length := by rw [← hs2, List.length_append]
  have e1 := fun W => cat_is na nr s1 hs1 (by omega) W
  have e2 := fun W => cat_is s1 rb s2 hs2 (by omega) W
  have e3 := fun W => cat_is s2 rp s3 hs3 (by omega) W
  have e4 := fun W => cat_is s3 nx s4 hs4 (by omega) W
  have e5 := fun W => cat_is s4 ny s5 hs5 (by omega) W
  have tb : (Dg.texts (bs.map Bt.bytes)).length ≤ 4294967296 := by
    have : rb.length ≤ 4600 := by omega
    rw [← hrb, Dg.row, List.length_append] at this; omega
  have tp : (Dg.texts ps).length ≤ 4294967296 := by
    have : rp.length ≤ 4600 := by omega
    rw [← hrp, Dg.row, List.length_append] at this; omega
  have lbm : (bs.map Bt.bytes).length ≤ 4294967296 := by rw [List.length_map]; omega
  have lpm : ps.length ≤ 4294967296 := by omega
  have hnum := Lib.hid (show ∀ (z : Int) (l : List UInt8), 0 ≤ z → z ≤ 9223372036854775807 → Dg.num z.toNat = l → ∀ W, Calls Try.prog 65 #[.int .u64 z] W fun e w' => e = .returned (tx l) ∧ Below W.heap.size W w' from fun z l h0 h1 h W => bnum_eq h0 h1 h W)
  have NA := Lib.hid (fun W => hnum.out a na (by omega) (by omega) hna W)
  have NR := Lib.hid (fun W => hnum.out r nr (by omega) (by omega) hnr W)
  have NX := Lib.hid (fun W => hnum.out x nx (by omega) (by omega) hnx W)
  have NY := Lib.hid (fun W => hnum.out y ny (by omega) (by omega) hny W)
  have wa : IntKind.u64.wrap a = a := IntWalk.u64_in _ ⟨by omega, by omega⟩
  have wr : IntKind.u64.wrap r = r := IntWalk.u64_in _ ⟨by omega, by omega⟩
  have wx : IntKind.u64.wrap x = x := IntWalk.u64_in _ ⟨by omega, by omega⟩
  have wy : IntKind.u64.wrap y = y := IntWalk.u64_in _ ⟨by omega, by omega⟩
  have VB := Lib.hid (VBox.new w a r bv pv x y)
  have HG := Lib.hid (show Below w.heap.size w (w.alloc (.cells #[.int .i64 a, .int .i64 r, bv, pv, .int .i64 x, .int .i64 y] 27)) from (Below.refl _ _).alloc (Nat.le_refl _) _)
  have HB := Lib.hid hb
  have HP := Lib.hid hp
  obtain ⟨ab, cb, rfl⟩ := hb.len
  obtain ⟨ap, cp, rfl⟩ := hp.len
  have B2 := Lib.hid b2
  have HS := Lib.hid (show Vt.Small bs from fun b hb => may_small (b2 b hb))
  have RB := Lib.hid (fun (u : Value) (W : World) (h : TxAt W u (bs.map Bt.bytes)) => row_eq hrb W h lbm tb)
  have RP := Lib.hid (fun (W : World) (h : TxAt W (.slice ap ps.length cp) ps) => row_eq hrp W h lpm tp)
  have LB := Lib.hid b1
  have LB2 := Lib.hid (show bs.length ≤ 140737488351232 by omega)
  have LP2 := Lib.hid (show ps.length ≤ 140737488351232 by omega)
  clear hm hb hp b2 hnum hna hnr hnx hny hrb hrp hs1 hs2 hs3 hs4 hs5 hall l5 l4 l3 l2 tb tp lbm lpm a1 a2 r1 r2 x1 x2 y1 y2 p1 p2 b1 hlen f1 f2
  go_enter Try.func33, Try.ntmps33
  go_wp2_with fail
  refine (pvmay_eq (v := (a, r, bs, ps, x, y)) HM.out _ _ _ (HB.out.below HG.out) (HP.out.below HG.out) LB2.out HS.out LP2.out n1 n2).mono ?_
  rintro e w1 ⟨rfl, g1⟩
  have v1 := Lib.hid (VB.out.kept g1)
  obtain ⟨c0, c1, c2, c3, c4, c5⟩ := v1.out.cells
  have G1 := Lib.hid (HG.out.trans (g1.mono (by simp)))
  clear g1
  go_wp2_with fail
  refine (peachB _ bs _ (HB.out.below G1.out) LB.out B2.out).mono ?_
  rintro e w2 ⟨u, rfl, hu, g2⟩
  clear c0 c1 c2 c3 c4 c5
  obtain ⟨au, cu, hue⟩ := hu.len
  rw [List.length_map] at hue
  have v2 := Lib.hid (v1.out.kept g2)
  have v3 := Lib.hid (v2.out.alloc (.cells #[.string ⟨#[]⟩, .string ⟨#[]⟩, .string ⟨#[]⟩, .string ⟨#[]⟩] 107))
  have q3 := Lib.hid (QBox.new w2 (.string ⟨#[]⟩) (.string ⟨#[]⟩) (.string ⟨#[]⟩) (.string ⟨#[]⟩))
  have G2 := Lib.hid (grow_trans G1.out g2)
  have J3 := Lib.hid ((Below.refl w2.heap.size w2).alloc (Nat.le_refl _) (.cells #[.string ⟨#[]⟩, .string ⟨#[]⟩, .string ⟨#[]⟩, .string ⟨#[]⟩] 107))
  have HU := Lib.hid hu
  have hne : w.heap.size ≠ w2.heap.size := by have := v2.out.lt; omega
  obtain ⟨c0, c1, c2, c3, c4, c5⟩ := v3.out.cells
  clear g2 hu
  subst hue
  go_wp2_with fail
  refine wp_loop_rounds 5 ?_
  rw [rounds_succ]
  go_wp2_with fail
  refine (NA.out _).mono ?_
  rintro e w4 ⟨rfl, g4⟩
  have p4 := Lib.hid (q3.out.kept g4)
  have q4 := Lib.hid (p4.out.set0 (tx na))
  have v4 := Lib.hid ((v3.out.kept g4).other (A := w2.heap.size) hne 0 (tx na))
  have J4 := Lib.hid (below_setQ (J3.out.trans (g4.mono J3.out.size)) (Nat.le_refl _) 0 (tx na))
  obtain ⟨k0, k1, k2, k3, f0, f1, f2, f3⟩ := p4.out.facts
  clear g4
  go_wp2_with fail
  rw [rounds_succ]
  clear k0 k1 k2 k3 f0 f1 f2 f3
  go_wp2_with fail
  refine (NR.out _).mono ?_
  rintro e w5 ⟨rfl, g4⟩
  have p5 := Lib.hid (q4.out.kept g4)
  have q5 := Lib.hid (p5.out.set1 (tx nr))
  have v5 := Lib.hid ((v4.out.kept g4).other (A := w2.heap.size) hne 1 (tx nr))
  have J5 := Lib.hid (below_setQ (J4.out.trans (g4.mono J4.out.size)) (Nat.le_refl _) 1 (tx nr))
  obtain ⟨k0, k1, k2, k3, f0, f1, f2, f3⟩ := p5.out.facts
  clear g4
  go_wp2_with fail
  rw [rounds_succ]
  clear k0 k1 k2 k3 f0 f1 f2 f3
  go_wp2_with fail
  refine (NX.out _).mono ?_
  rintro e w6 ⟨rfl, g4⟩
  have p6 := Lib.hid (q5.out.kept g4)
  have q6 := Lib.hid (p6.out.set2 (tx nx))
  have v6 := Lib.hid ((v5.out.kept g4).other (A := w2.heap.size) hne 2 (tx nx))
  have J6 := Lib.hid (below_setQ (J5.out.trans (g4.mono J5.out.size)) (Nat.le_refl _) 2 (tx nx))
  obtain ⟨k0, k1, k2, k3, f0, f1, f2, f3⟩ := p6.out.facts
  clear g4
  go_wp2_with fail
  rw [rounds_succ]
  clear k0 k1 k2 k3 f0 f1 f2 f3
  go_wp2_with fail
  refine (NY.out _).mono ?_
  rintro e w7 ⟨rfl, g4⟩
  have p7 := Lib.hid (q6.out.kept g4)
  have q7 := Lib.hid (p7.out.set3 (tx ny))
  have v7 := Lib.hid ((v6.out.kept g4).other (A := w2.heap.size) hne 3 (tx ny))
  have J7 := Lib.hid (below_setQ (J6.out.trans (g4.mono J6.out.size)) (Nat.le_refl _) 3 (tx ny))
  obtain ⟨k0, k1, k2, k3, f0, f1, f2, f3⟩ := p7.out.facts
  clear g4
  go_wp2_with fail
  rw [rounds_succ]
  clear k0 k1 k2 k3 f0 f1 f2 f3
  obtain ⟨k0, k1, k2, k3, _⟩ := q7.out.facts
  obtain ⟨_, _, _, d3, _, _⟩ := v7.out.cells
  have hS : (fun w' : World => w'.cell? ⟨w2.heap.size, 0, none⟩ = some (tx na) ∧ w'.cell? ⟨w2.heap.size, 1, none⟩ = some (tx nr) ∧ w'.cell? ⟨w2.heap.size, 2, none⟩ = some (tx nx) ∧ w'.cell? ⟨w2.heap.size, 3, none⟩ = some (tx ny) ∧ w'.cell? ⟨w.heap.size, 3, none⟩ = some (.slice ap ps.length cp) ∧ Below w2.heap.size w2 w') (w7.setCell ⟨w2.heap.size, 3, none⟩ (tx ny)) := ⟨k0, k1, k2, k3, d3, J7.out⟩
  have hk := Lib.hid (show ∀ a b : World, (fun w' : World => w'.cell? ⟨w2.heap.size, 0, none⟩ = some (tx na) ∧ w'.cell? ⟨w2.heap.size, 1, none⟩ = some (tx nr) ∧ w'.cell? ⟨w2.heap.size, 2, none⟩ = some (tx nx) ∧ w'.cell? ⟨w2.heap.size, 3, none⟩ = some (tx ny) ∧ w'.cell? ⟨w.heap.size, 3, none⟩ = some (.slice ap ps.length cp) ∧ Below w2.heap.size w2 w') a → Below a.heap.size a b → (fun w' : World => w'.cell? ⟨w2.heap.size, 0, none⟩ = some (tx na) ∧ w'.cell? ⟨w2.heap.size, 1, none⟩ = some (tx nr) ∧ w'.cell? ⟨w2.heap.size, 2, none⟩ = some (tx nx) ∧ w'.cell? ⟨w2.heap.size, 3, none⟩ = some (tx ny) ∧ w'.cell? ⟨w.heap.size, 3, none⟩ = some (.slice ap ps.length cp) ∧ Below w2.heap.size w2 w') b from fun a b ⟨k0, k1, k2, k3, d3, kb⟩ h => ⟨below_cell h k0, below_cell h k1, below_cell h k2, below_cell h k3, below_cell h d3, kb.trans (h.mono kb.size)⟩)
  have hf := Lib.hid (show ∀ (u : Value) (R : List UInt8), (u = .slice au bs.length cu ∧ R = rb) ∨ (u = .slice ap ps.length cp ∧ R = rp) → ∀ W, (fun w' : World => w'.cell? ⟨w2.heap.size, 0, none⟩ = some (tx na) ∧ w'.cell? ⟨w2.heap.size, 1, none⟩ = some (tx nr) ∧ w'.cell? ⟨w2.heap.size, 2, none⟩ = some (tx nx) ∧ w'.cell? ⟨w2.heap.size, 3, none⟩ = some (tx ny) ∧ w'.cell? ⟨w.heap.size, 3, none⟩ = some (.slice ap ps.length cp) ∧ Below w2.heap.size w2 w') W → Calls Try.prog 66 #[u] W fun e w' => e = .returned (tx R) ∧ (fun w' : World => w'.cell? ⟨w2.heap.size, 0, none⟩ = some (tx na) ∧ w'.cell? ⟨w2.heap.size, 1, none⟩ = some (tx nr) ∧ w'.cell? ⟨w2.heap.size, 2, none⟩ = some (tx nx) ∧ w'.cell? ⟨w2.heap.size, 3, none⟩ = some (tx ny) ∧ w'.cell? ⟨w.heap.size, 3, none⟩ = some (.slice ap ps.length cp) ∧ Below w2.heap.size w2 w') w' from by
    rintro u R (⟨rfl, rfl⟩ | ⟨rfl, rfl⟩) W h
    · exact keepB (fun w' : World => w'.cell? ⟨w2.heap.size, 0, none⟩ = some (tx na) ∧ w'.cell? ⟨w2.heap.size, 1, none⟩ = some (tx nr) ∧ w'.cell? ⟨w2.heap.size, 2, none⟩ = some (tx nx) ∧ w'.cell? ⟨w2.heap.size, 3, none⟩ = some (tx ny) ∧ w'.cell? ⟨w.heap.size, 3, none⟩ = some (.slice ap ps.length cp) ∧ Below w2.heap.size w2 w') hk.out (RB.out _ W (HU.out.below h.2.2.2.2.2)) h
    · exact keepB (fun w' : World => w'.cell? ⟨w2.heap.size, 0, none⟩ = some (tx na) ∧ w'.cell? ⟨w2.heap.size, 1, none⟩ = some (tx nr) ∧ w'.cell? ⟨w2.heap.size, 2, none⟩ = some (tx nx) ∧ w'.cell? ⟨w2.heap.size, 3, none⟩ = some (tx ny) ∧ w'.cell? ⟨w.heap.size, 3, none⟩ = some (.slice ap ps.length cp) ∧ Below w2.heap.size w2 w') hk.out (RP.out W (HP.out.below (grow_trans G2.out h.2.2.2.2.2))) h)
  clear k0 k1 k2 k3 d3 c0 c1 c2 c3 c4 c5 NA NR NX NY wa wr wx wy RB RP HM VB HG HB HP B2 HS LB LB2 LP2 v1 v2 v3 v4 v5 v6 v7 q3 q4 q5 q6 q7 p4 p5 p6 p7 J3 J4 J5 J6 J7 HU G1
  go_wp2_with fail
  go_region_held3 (fun w' : World => w'.cell? ⟨w2.heap.size, 0, none⟩ = some (tx na) ∧ w'.cell? ⟨w2.heap.size, 1, none⟩ = some (tx nr) ∧ w'.cell? ⟨w2.heap.size, 2, none⟩ = some (tx nx) ∧ w'.cell? ⟨w2.heap.size, 3, none⟩ = some (tx ny) ∧ w'.cell? ⟨w.heap.size, 3, none⟩ = some (.slice ap ps.length cp) ∧ Below w2.heap.size w2 w')
    (first | assumption | exact hk.out _ _ hS (Below.drew (Below.refl _ _)) | exact hk.out _ _ (by assumption) ((Below.refl _ _).alloc (Nat.le_refl _) _))
    ((go_at_call 66; refine (hf.out _ _ (by first | exact .inl ⟨rfl, rfl⟩ | exact .inr ⟨rfl, rfl⟩) _ (by assumption)).mono ?_; rintro e w1 ⟨rfl, kS⟩))
  all_goals (go_wp2_with fail; go_ret2; exact ⟨rfl, grow_trans G2.out (show (fun w' : World => w'.cell? ⟨w2.heap.size, 0, none⟩ = some (tx na) ∧ w'.cell? ⟨w2.heap.size, 1, none⟩ = some (tx nr) ∧ w'.cell? ⟨w2.heap.size, 2, none⟩ = some (tx nx) ∧ w'.cell? ⟨w2.heap.size, 3, none⟩ = some (tx ny) ∧ w'.cell? ⟨w.heap.size, 3, none⟩ = some (.slice ap ps.length cp) ∧ Below w2.heap.size w2 w') _ by assumption).2.2.2.2.2⟩)

theorem pvbytes_no (v : Vt.Vtx) (bv pv : Value) (n : Int) (w : World) (hb : BtsAt w bv v.2.2.1) (hp : TxAt w pv v.2.2.2.1) (lb : v.2.2.1.length ≤ 140737488351232) (hs : Vt.Small v.2.2.1) (lp : v.2.2.2.1.length ≤ 140737488351232) (n1 : -9223372036854775808 ≤ n) (n2 : n ≤ 9223372036854775807) (hm : Vt.may v n = false) :
    Calls Try.prog 33 #[vtxV v.1 v.2.1 bv pv v.2.2.2.2.1 v.2.2.2.2.2, .int .i64 n] w fun e w' => e = .returned (.tuple #[tx [], .int .i64 1]) ∧ Below w.heap.size w w' := by
  have HM := Lib.hid hm
  obtain ⟨a, r, bs, ps, x, y⟩ := v
  simp only [] at hb hp lb lp hs
  have HG := Lib.hid (show Below w.heap.size w (w.alloc (.cells #[.int .i64 a, .int .i64 r, bv, pv, .int .i64 x, .int .i64 y] 27)) from (Below.refl _ _).alloc (Nat.le_refl _) _)
  have HB := Lib.hid hb
  have HP := Lib.hid hp
  have HS := Lib.hid hs
  obtain ⟨ab, cb, rfl⟩ := hb.len
  obtain ⟨ap, cp, rfl⟩ := hp.len
  clear hm hb hp hs
  go_enter Try.func33, Try.ntmps33
  go_wp2_with fail
  refine (pvmay_eq (v := (a, r, bs, ps, x, y)) HM.out _ _ _ (HB.out.below HG.out) (HP.out.below HG.out) lb HS.out lp n1 n2).mono ?_
  rintro e w1 ⟨rfl, g1⟩
  have G1 := Lib.hid (HG.out.trans (g1.mono (by simp)))
  clear g1
  go_wp2
  go_ret2
  exact ⟨rfl, G1.out⟩
theorem pvbytes_eq {v : Vt.Vtx} {n : Int} {R : List UInt8 × Nat} (h : Vt.bytesR v n = R) (bv pv : Value) (w : World) (hb : BtsAt w bv v.2.2.1) (hp : TxAt w pv v.2.2.2.1) (lb : v.2.2.1.length ≤ 140737488351232) (hs : Vt.Small v.2.2.1) (lp : v.2.2.2.1.length ≤ 140737488351232) (n1 : -9223372036854775808 ≤ n) (n2 : n ≤ 9223372036854775807) :
    Calls Try.prog 33 #[vtxV v.1 v.2.1 bv pv v.2.2.2.2.1 v.2.2.2.2.2, .int .i64 n] w fun e w' => e = .returned (.tuple #[tx R.1, .int .i64 R.2]) ∧ Below w.heap.size w w' := by
  subst h
  cases hm : Vt.may v n with
  | true => rw [Vt.bytesR_ok hm]; exact pvbytes_ok v bv pv n w hb hp n1 n2 hm
  | false => rw [Vt.bytesR_no hm]; exact pvbytes_no v bv pv n w hb hp lb hs lp n1 n2 hm
end Go.Proofs.Ytbkpekpajeaacaa
