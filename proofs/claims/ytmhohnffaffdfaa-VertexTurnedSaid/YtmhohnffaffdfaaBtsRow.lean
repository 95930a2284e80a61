/- Batches in a world: three cells each, the third one a slice of texts; all that lies below block M. -/
import Derived.Test.YtmhohnffaffdfaaBatMath
import Derived.Test.YtmhohnffaffdfaaTyS
import Derived.Deep.Onto
namespace Go.Proofs.Ytmhohnffaffdfaa
open Go.RowKit

/-- What lies below M, and below B or holds texts, is as it was. -/
def Stays (B M : Nat) (w w' : World) : Prop := ∀ k, k < M → (k < B ∨ TyS w k) → w'.heap[k]? = w.heap[k]?
theorem Stays.of {B M : Nat} {w w' : World} (h : Below M w w') : Stays B M w w' := fun k hk _ => h.block k hk
theorem Stays.trans {B M : Nat} {a b c : World} (h : Stays B M a b) (k : Stays B M b c) : Stays B M a c := fun i hi ht => by
  have e := h i hi ht
  rw [k i hi (ht.imp id fun ⟨cur, fz, hh⟩ => ⟨cur, fz, by rw [e]; exact hh⟩), e]
theorem Stays.mono {B M M' : Nat} {w w' : World} (h : Stays B M w w') (hM : M' ≤ M) : Stays B M' w w' := fun k hk ht => h k (by omega) ht
/-- The texts ls, in a block below M that is old or holds texts. -/
def TxM (B M : Nat) (w : World) (v : Value) (ls : List (List UInt8)) : Prop :=
  (∃ a cap, v = .slice a 0 cap ∧ ls = []) ∨ ∃ b off cap, b < M ∧ (b < B ∨ TyS w b) ∧ v = .slice (some ⟨b, off, none⟩) ls.length cap ∧ ∀ i (h : i < ls.length), w.cell? ⟨b, off + i, none⟩ = some (tx ls[i])
theorem TxM.at {B M : Nat} {w : World} {v : Value} {ls : List (List UInt8)} (h : TxM B M w v ls) : TxAt w v ls := by
  rcases h with h | ⟨b, off, cap, _, _, hv, hc⟩
  · exact .inl h
  · exact .inr ⟨b, off, cap, hv, hc⟩
theorem TxM.of {w : World} {v : Value} {ls : List (List UInt8)} (h : TxAt w v ls) : TxM w.heap.size w.heap.size w v ls := by
  rcases h with h | ⟨b, off, cap, hv, hc⟩
  · exact .inl h
  · by_cases h0 : ls.length = 0
    · exact .inl ⟨_, _, by rw [hv, h0], List.length_eq_zero_iff.1 h0⟩
    · have := World.block_lt_of_cell? w _ (hc 0 (by omega))
      exact .inr ⟨b, off, cap, this, .inl this, hv, hc⟩
theorem TxM.ofT {B : Nat} {w : World} {v : Value} {ls : List (List UInt8)} (h : TxAt w v ls) (ht : ∀ k, v.ownBlock = some k → TyS w k) : TxM B w.heap.size w v ls := by
  rcases h with h | ⟨b, off, cap, rfl, hc⟩
  · exact .inl h
  · by_cases h0 : ls.length = 0
    · exact .inl ⟨some ⟨b, off, none⟩, cap, by rw [h0], List.length_eq_zero_iff.1 h0⟩
    · exact .inr ⟨b, off, cap, World.block_lt_of_cell? w _ (hc 0 (by omega)), .inr (ht b rfl), rfl, hc⟩
theorem TxM.keep {B M : Nat} {w w' : World} {v : Value} {ls : List (List UInt8)} (h : TxM B M w v ls) (hb : Stays B M w w') : TxM B M w' v ls := by
  rcases h with h | ⟨b, off, cap, hM, ht, hv, hc⟩
  · exact .inl h
  · have e := hb b hM ht
    exact .inr ⟨b, off, cap, hM, ht.imp id (fun ⟨cur, fz, hh⟩ => ⟨cur, fz, by rw [e]; exact hh⟩), hv, fun i hi => (World.cell?_of_block (a := ⟨b, off + i, none⟩) e).trans (hc i hi)⟩
theorem TxM.mono {B B' M M' : Nat} {w : World} {v : Value} {ls : List (List UInt8)} (h : TxM B M w v ls) (hB : B ≤ B') (hM : M ≤ M') : TxM B' M' w v ls := by
  rcases h with h | ⟨b, off, cap, h1, h2, hv, hc⟩
  · exact .inl h
  · exact .inr ⟨b, off, cap, by omega, h2.imp (fun h => by omega) id, hv, hc⟩
theorem TxM.all {B M : Nat} {w : World} {v : Value} {ls : List (List UInt8)} (h : TxM B M w v ls) (hM : M ≤ w.heap.size) : TxM w.heap.size w.heap.size w v ls := by
  rcases h with h | ⟨b, off, cap, h1, _, hv, hc⟩
  · exact .inl h
  · exact .inr ⟨b, off, cap, by omega, .inl (by omega), hv, hc⟩

/-- Batches, as the cells of a slice; what each one's texts are lies below M. -/
def BtsM (B M : Nat) (w : World) : List Value → List Bt.Bat → Prop
  | [], [] => True
  | a :: b :: c :: cs, x :: xs => a = iv x.1 ∧ b = iv x.2.1 ∧ TxM B M w c x.2.2 ∧ BtsM B M w cs xs
  | _, _ => False
theorem BtsM.len {B M : Nat} {w : World} : ∀ {cs : List Value} {bs : List Bt.Bat}, BtsM B M w cs bs → cs.length = bs.length * 3
  | [], [], _ => rfl
  | _ :: _ :: _ :: cs, _ :: xs, h => by have := BtsM.len (cs := cs) h.2.2.2; simp only [List.length_cons]; omega
theorem BtsM.keep {B M : Nat} {w w' : World} (hb : Stays B M w w') : ∀ {cs : List Value} {bs : List Bt.Bat}, BtsM B M w cs bs → BtsM B M w' cs bs
  | [], [], _ => trivial
  | _ :: _ :: _ :: _, _ :: _, h => ⟨h.1, h.2.1, h.2.2.1.keep hb, BtsM.keep hb h.2.2.2⟩
theorem BtsM.mono {B B' M M' : Nat} {w : World} (hB : B ≤ B') (hM : M ≤ M') : ∀ {cs : List Value} {bs : List Bt.Bat}, BtsM B M w cs bs → BtsM B' M' w cs bs
  | [], [], _ => trivial
  | _ :: _ :: _ :: _, _ :: _, h => ⟨h.1, h.2.1, h.2.2.1.mono hB hM, BtsM.mono hB hM h.2.2.2⟩
theorem BtsM.all {B M : Nat} {w : World} (hM : M ≤ w.heap.size) : ∀ {cs : List Value} {bs : List Bt.Bat}, BtsM B M w cs bs → BtsM w.heap.size w.heap.size w cs bs
  | [], [], _ => trivial
  | _ :: _ :: _ :: _, _ :: _, h => ⟨h.1, h.2.1, h.2.2.1.all hM, BtsM.all hM h.2.2.2⟩
theorem BtsM.app {B M : Nat} {w : World} {ds : List Value} {ys : List Bt.Bat} (k : BtsM B M w ds ys) : ∀ {cs : List Value} {bs : List Bt.Bat}, BtsM B M w cs bs → BtsM B M w (cs ++ ds) (bs ++ ys)
  | [], [], _ => k
  | _ :: _ :: _ :: _, _ :: _, h => ⟨h.1, h.2.1, h.2.2.1, BtsM.app k h.2.2.2⟩
theorem BtsM.get {B M : Nat} {w : World} : ∀ {cs : List Value} {bs : List Bt.Bat}, BtsM B M w cs bs → ∀ k (h : k < bs.length), ∃ u, cs[k * 3]? = some (iv bs[k].1) ∧ cs[k * 3 + 1]? = some (iv bs[k].2.1) ∧ cs[k * 3 + 2]? = some u ∧ TxM B M w u bs[k].2.2
  | [], [], _, k, hk => absurd hk (by simp)
  | a :: b :: c :: cs, x :: xs, h, 0, _ => ⟨c, by rw [h.1]; rfl, by rw [h.2.1]; rfl, rfl, h.2.2.1⟩
  | a :: b :: c :: cs, x :: xs, h, k + 1, hk => by
    obtain ⟨u, h1, h2, h3, h4⟩ := BtsM.get h.2.2.2 k (by simpa using hk)
    refine ⟨u, ?_, ?_, ?_, h4⟩
    · rw [show (k + 1) * 3 = k * 3 + 3 by omega]; exact h1
    · rw [show (k + 1) * 3 + 1 = k * 3 + 1 + 3 by omega]; exact h2
    · rw [show (k + 1) * 3 + 2 = k * 3 + 2 + 3 by omega]; exact h3
theorem BtsM.one {B M : Nat} {w : World} {cs : List Value} {bs : List Bt.Bat} (h : BtsM B M w cs bs) : ∀ u ∈ cs, u.oneCell' = true := by
  induction cs, bs using BtsM.induct with
  | case1 => intro u hu; cases hu
  | case2 a b c cs x xs ih =>
    obtain ⟨h1, h2, h3, h4⟩ := h
    intro u hu
    simp only [List.mem_cons] at hu
    rcases hu with rfl | rfl | rfl | hu
    · rw [h1]; rfl
    · rw [h2]; rfl
    · rcases h3 with ⟨_, _, rfl, _⟩ | ⟨_, _, _, _, _, rfl, _⟩ <;> rfl
    · exact ih h4 u hu
  | case3 a b h => simp [BtsM] at h

/-- Batches in a slice: where they lie, and their texts. -/
def BtsAt (w : World) (v : Value) (bs : List Bt.Bat) : Prop := ∃ cs, FlatAt w v 3 cs ∧ BtsM w.heap.size w.heap.size w cs bs
theorem BtsAt.below {w w' : World} {v : Value} {bs : List Bt.Bat} (h : BtsAt w v bs) (hb : Below w.heap.size w w') : BtsAt w' v bs := by
  obtain ⟨cs, h1, h2⟩ := h
  exact ⟨cs, h1.below hb, (h2.keep (Stays.of hb)).mono hb.size hb.size⟩
theorem BtsAt.len {w : World} {v : Value} {bs : List Bt.Bat} (h : BtsAt w v bs) : ∃ a cap, v = .slice a bs.length cap := by
  obtain ⟨cs, h1, h2⟩ := h
  exact h1.len (n := bs.length) h2.len (by omega)
/-- Batches, opened. -/
theorem BtsAt.cells {w : World} {v : Value} {bs : List Bt.Bat} (h : BtsAt w v bs) :
    (bs = [] ∧ ∃ a cap, v = .slice a 0 cap) ∨ (0 < bs.length ∧ ∃ b off cap, v = .slice (some ⟨b, off, none⟩) bs.length cap ∧
      ∀ k (hk : k < bs.length), ∃ u, w.cell? ⟨b, off + k * 3, none⟩ = some (iv bs[k].1) ∧ w.cell? ⟨b, off + k * 3 + 1, none⟩ = some (iv bs[k].2.1) ∧ w.cell? ⟨b, off + k * 3 + 2, none⟩ = some u ∧ TxAt w u bs[k].2.2) := by
  obtain ⟨cs, h1, h2⟩ := h
  by_cases h0 : bs.length = 0
  · have e : bs = [] := List.length_eq_zero_iff.1 h0
    obtain ⟨a, cap, rfl⟩ := h1.len (n := bs.length) h2.len (by omega)
    subst e
    exact .inl ⟨rfl, _, _, rfl⟩
  · obtain ⟨b, off, cap, rfl, hc⟩ := h1.at (n := bs.length) h2.len (by omega) (by omega)
    refine .inr ⟨by omega, b, off, cap, rfl, fun k hk => ?_⟩
    obtain ⟨u, g1, g2, g3, g4⟩ := h2.get k hk
    have hl := h2.len
    have l1 : k * 3 < cs.length := by omega
    have l2 : k * 3 + 1 < cs.length := by omega
    have l3 : k * 3 + 2 < cs.length := by omega
    rw [List.getElem?_eq_getElem l1] at g1
    rw [List.getElem?_eq_getElem l2] at g2
    rw [List.getElem?_eq_getElem l3] at g3
    injection g1 with g1
    injection g2 with g2
    injection g3 with g3
    exact ⟨u, by rw [hc _ l1, g1], by rw [Nat.add_assoc, hc _ l2, g2], by rw [Nat.add_assoc, hc _ l3, g3], g4.at⟩
theorem own_below {w w' : World} {base k M : Nat} {t : TypeId} {v : Value} {n : Nat} {cs : List Value} (h : w.ownsRow base t k v n cs) (hb : Below M w w') (hM : ∀ g, v.ownBlock = some g → g < M) : w'.ownsRow base t k v n cs := by
  obtain ⟨h1, h2⟩ := h
  refine ⟨h1, ?_⟩
  rcases h2 with h2 | ⟨g, cap, cur, hv, hg, hh, r⟩
  · exact .inl h2
  · exact .inr ⟨g, cap, cur, hv, hg, by rw [hb.block g (hM g (by rw [hv]; rfl))]; exact hh, r⟩
end Go.Proofs.Ytmhohnffaffdfaa
