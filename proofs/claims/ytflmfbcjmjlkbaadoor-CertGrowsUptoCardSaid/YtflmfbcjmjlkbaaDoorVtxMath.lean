/- Vertices as bytes, and back: plain functions. No program is named here. -/
import Derived.Test.YtflmfbcjmjlkbaaDoorBatMath
import Derived.Test.YtflmfbcjmjlkbaaDoorDigOrd
import Derived.Test.YtflmfbcjmjlkbaaDoorSeatMath
namespace Vt
open Dg Bt

/-- Author, round, batches, parents, the share's two parts. -/
abbrev Vtx := Int × Int × List Bat × List (List UInt8) × Int × Int
def third (r : Int) : Bool := decide (0 < r ∧ r % 3 = 0)
def wrongB (n : Int) (b : Bat) : Bool := !Bt.may b || decide (n < b.1)
def allB (n : Int) (l : List Bat) : Bool := decide (∀ b ∈ l, wrongB n b = false)
def mayB (n : Int) (l : List Bat) : Bool := decide (l.length ≤ 4) && allB n l
/-- The text at place i may stand there. -/
def okP (l : List (List UInt8)) (i : Nat) : Prop := ∀ h : i < l.length, l[i].length = 32 ∧ (∀ _ : 0 < i, less l[i - 1] l[i] = true)
def asc (l : List (List UInt8)) : Prop := ∀ i, okP l i
open Classical in
noncomputable def mayP (r n : Int) (l : List (List UInt8)) : Bool := if r = 1 then decide (l.length = 0) else decide (Se.quorum n ≤ l.length ∧ (l.length : Int) ≤ n) && decide (asc l)
def elemMay (x y : Int) : Bool := decide (0 ≤ x ∧ x < 10007 ∧ 0 ≤ y ∧ y < 10007)
def mayS (r x y : Int) : Bool := elemMay x y && (third r || decide (x = 0 ∧ y = 0))
noncomputable def may (v : Vtx) (n : Int) : Bool := Se.may n && (decide (1 ≤ v.1 ∧ v.1 ≤ n) && (decide (1 ≤ v.2.1 ∧ v.2.1 ≤ 1048576) && (mayB n v.2.2.1 && (mayP v.2.1 n v.2.2.2.1 && mayS v.2.1 v.2.2.2.2.1 v.2.2.2.2.2))))

def bytes (v : Vtx) : List UInt8 := num v.1.toNat ++ (num v.2.1.toNat ++ (row (v.2.2.1.map Bt.bytes) ++ (row v.2.2.2.1 ++ (num v.2.2.2.2.1.toNat ++ num v.2.2.2.2.2.toNat))))
noncomputable def bytesR (v : Vtx) (n : Int) : List UInt8 × Nat := if may v n = true then (bytes v, 0) else ([], 1)
theorem bytesR_ok {v : Vtx} {n : Int} (h : may v n = true) : bytesR v n = (bytes v, 0) := by rw [bytesR, if_pos h]
theorem bytesR_no {v : Vtx} {n : Int} (h : may v n = false) : bytesR v n = ([], 1) := by rw [bytesR, if_neg (by simp [h])]
theorem bytesR_cases (v : Vtx) (n : Int) : (may v n = true ∧ bytesR v n = (bytes v, 0)) ∨ (may v n = false ∧ bytesR v n = ([], 1)) := by
  cases h : may v n with
  | true => exact .inl ⟨rfl, bytesR_ok h⟩
  | false => exact .inr ⟨rfl, bytesR_no h⟩

theorem seatsMay_le {n : Int} (h : Se.may n = true) : 4 ≤ n ∧ n ≤ 64 := by
  simp only [Se.may, Bool.and_eq_true, decide_eq_true_iff] at h; omega

structure Fits (v : Vtx) (n : Int) : Prop where
  n1 : 4 ≤ n
  n2 : n ≤ 64
  a1 : 1 ≤ v.1
  a2 : v.1 ≤ n
  r1 : 1 ≤ v.2.1
  r2 : v.2.1 ≤ 1048576
  b1 : v.2.2.1.length ≤ 4
  b2 : ∀ b ∈ v.2.2.1, Bt.may b = true
  p1 : (v.2.2.2.1.length : Int) ≤ n
  p2 : ∀ t ∈ v.2.2.2.1, t.length = 32
  x1 : 0 ≤ v.2.2.2.2.1
  x2 : v.2.2.2.2.1 < 10007
  y1 : 0 ≤ v.2.2.2.2.2
  y2 : v.2.2.2.2.2 < 10007
theorem fits {v : Vtx} {n : Int} (h : may v n = true) : Fits v n := by
  simp only [may, mayB, allB, mayS, elemMay, Bool.and_eq_true, decide_eq_true_iff] at h
  obtain ⟨h1, ⟨h2, h3⟩, ⟨h4, h5⟩, ⟨h6, h7⟩, h8, ⟨h9, h10, h11, h12⟩, _⟩ := h
  have hs := seatsMay_le h1
  have hp : (v.2.2.2.1.length : Int) ≤ n ∧ ∀ t ∈ v.2.2.2.1, t.length = 32 := by
    unfold mayP at h8
    split at h8
    · simp only [decide_eq_true_iff] at h8
      refine ⟨by omega, fun t ht => ?_⟩
      rw [List.length_eq_zero_iff.1 h8] at ht
      cases ht
    · simp only [Bool.and_eq_true, decide_eq_true_iff] at h8
      refine ⟨h8.1.2, fun t ht => ?_⟩
      obtain ⟨i, hi, rfl⟩ := List.getElem_of_mem ht
      exact (h8.2 i hi).1
  refine ⟨hs.1, hs.2, h2, h3, h4, h5, h6, fun b hb => ?_, hp.1, hp.2, h9, h10, h11, h12⟩
  have := h7 b hb
  simp only [wrongB, Bool.or_eq_false_iff, Bool.not_eq_false'] at this
  exact this.1

/-- All batches of texts. -/
def takeAll : List (List UInt8) → List Bat × Nat
  | [] => ([], 0)
  | s :: l => if (Bt.take s).2 ≠ 0 then ([], (Bt.take s).2) else if (takeAll l).2 ≠ 0 then ([], (takeAll l).2) else ((Bt.take s).1 :: (takeAll l).1, 0)
theorem takeAll_bytes (l : List Bat) (h : ∀ b ∈ l, Bt.may b = true) : takeAll (l.map Bt.bytes) = (l, 0) := by
  induction l with
  | nil => rfl
  | cons b l ih =>
    have h1 := Bt.back b (h b (by simp))
    have h2 := ih fun x hx => h x (by simp [hx])
    simp only [List.map_cons, takeAll, h1, h2]
    simp
theorem takeAll_back (l : List (List UInt8)) (bs : List Bat) (h : takeAll l = (bs, 0)) : bs.map Bt.bytes = l := by
  induction l generalizing bs with
  | nil => simp only [takeAll, Prod.mk.injEq] at h; rw [← h.1]; rfl
  | cons s l ih =>
    simp only [takeAll] at h
    split at h
    · simp only [Prod.mk.injEq] at h; rename_i h0; exact absurd h.2 h0
    · split at h
      · simp only [Prod.mk.injEq] at h; rename_i h0; exact absurd h.2 h0
      · rename_i h0 h1
        simp only [Prod.mk.injEq] at h
        obtain ⟨rfl, _⟩ := h
        rw [List.map_cons, ih (takeAll l).1 (by
          obtain ⟨⟨x, y⟩, hx⟩ : ∃ q, takeAll l = q := ⟨_, rfl⟩
          simp only [hx] at h1 ⊢
          simp only [Prod.mk.injEq, true_and]
          omega)]
        rcases Bt.take_or s with e | ⟨b, e, _, hb⟩
        · rw [e] at h0; simp [Bt.none] at h0
        · rw [e, hb]

/-- The bytes of a vertex that may be, and whatever stands behind, from part to part. -/
theorem parts {v : Vtx} {n : Int} (h : may v n = true) (more : List UInt8) :
    ∃ s1 s2 s3 s4 s5, takeNum (bytes v ++ more) = (v.1.toNat, s1, 0) ∧ takeNum s1 = (v.2.1.toNat, s2, 0) ∧
      (∀ m : Int, 300 ≤ m ∨ (s2.length : Int) ≤ m → takeRow s2 4 m = (v.2.2.1.map Bt.bytes, s3, 0)) ∧ takeAll (v.2.2.1.map Bt.bytes) = (v.2.2.1, 0) ∧
      (∀ m : Int, n ≤ m → takeRow s3 m 32 = (v.2.2.2.1, s4, 0)) ∧ takeNum s4 = (v.2.2.2.2.1.toNat, s5, 0) ∧ takeNum s5 = (v.2.2.2.2.2.toNat, more, 0) := by
  have f := fits h
  obtain ⟨n1, n2, a1, a2, r1, r2, b1, b2, p1, p2, x1, x2, y1, y2⟩ := f
  refine ⟨num v.2.1.toNat ++ (row (v.2.2.1.map Bt.bytes) ++ (row v.2.2.2.1 ++ (num v.2.2.2.2.1.toNat ++ (num v.2.2.2.2.2.toNat ++ more)))), row (v.2.2.1.map Bt.bytes) ++ (row v.2.2.2.1 ++ (num v.2.2.2.2.1.toNat ++ (num v.2.2.2.2.2.toNat ++ more))), row v.2.2.2.1 ++ (num v.2.2.2.2.1.toNat ++ (num v.2.2.2.2.2.toNat ++ more)), num v.2.2.2.2.1.toNat ++ (num v.2.2.2.2.2.toNat ++ more), num v.2.2.2.2.2.toNat ++ more, ?_, ?_, ?_, takeAll_bytes _ b2, ?_, ?_, ?_⟩
  · simp only [bytes, List.append_assoc]
    exact takeNum_num _ (by omega) _
  · exact takeNum_num _ (by omega) _
  · intro m hm
    have hlen : ∀ t ∈ v.2.2.1.map Bt.bytes, t.length ≤ 300 := by
      intro t ht
      obtain ⟨b, hb, rfl⟩ := List.mem_map.1 ht
      exact Bt.bytes_len b (b2 b hb)
    have hin : ∀ (l : List (List UInt8)), ∀ t ∈ l, t.length ≤ (texts l).length := by
      intro l
      induction l with
      | nil => intro t ht; cases ht
      | cons s l ih =>
        intro t ht
        simp only [texts, text, List.length_append]
        rcases List.mem_cons.1 ht with rfl | ht
        · omega
        · have := ih t ht; omega
    refine takeRow_row _ _ _ _ (by rw [List.length_map]; omega) (by rw [List.length_map]; omega) (fun t ht => ?_) (fun t ht => by have := hlen t ht; omega)
    have h1 := hlen t ht
    have h2 := hin _ t ht
    rcases hm with hm | hm
    · omega
    · rw [List.length_append, row, List.length_append] at hm; omega
  · intro m hm
    exact takeRow_row _ _ _ _ (by omega) (by omega) (fun t ht => by have := p2 t ht; omega) (fun t ht => by have := p2 t ht; omega)
  · exact takeNum_num _ (by omega) _
  · exact takeNum_num _ (by omega) _
/-- From the parts, the bytes. -/
theorem whole {s s1 s2 s3 s4 s5 : List UInt8} {a r x y : Nat} {l : List (List UInt8)} {bs : List Bat} {ps : List (List UInt8)} {k m k' m' : Int}
    (h1 : takeNum s = (a, s1, 0)) (h2 : takeNum s1 = (r, s2, 0)) (h3 : takeRow s2 k m = (l, s3, 0)) (h4 : takeAll l = (bs, 0)) (h5 : takeRow s3 k' m' = (ps, s4, 0)) (h6 : takeNum s4 = (x, s5, 0)) (h7 : takeNum s5 = (y, [], 0)) :
    bytes ((a : Int), (r : Int), bs, ps, (x : Int), (y : Int)) = s := by
  have e1 := takeNum_back _ _ _ h1
  have e2 := takeNum_back _ _ _ h2
  have e3 := (takeRow_back _ _ _ _ _ h3).1
  have e4 := takeAll_back _ _ h4
  have e5 := (takeRow_back _ _ _ _ _ h5).1
  have e6 := takeNum_back _ _ _ h6
  have e7 := takeNum_back _ _ _ h7
  simp only [bytes, Int.toNat_natCast]
  rw [e4, ← e1, ← e2, ← e3, ← e5, ← e6, ← e7, List.append_nil]
theorem inj {u v : Vtx} {n m : Int} (hu : may u n = true) (hv : may v m = true) (h : bytes u = bytes v) : u = v := by
  obtain ⟨s1, s2, s3, s4, s5, h1, h2, h3, h4, h5, h6, h7⟩ := parts hu []
  obtain ⟨t1, t2, t3, t4, t5, k1, k2, k3, k4, k5, k6, k7⟩ := parts hv []
  rw [h, k1] at h1
  simp only [Prod.mk.injEq, and_true] at h1
  obtain ⟨e1, rfl⟩ := h1
  rw [k2] at h2
  simp only [Prod.mk.injEq, and_true] at h2
  obtain ⟨e2, rfl⟩ := h2
  have h3' := h3 300 (.inl (by omega))
  rw [k3 300 (.inl (by omega))] at h3'
  simp only [Prod.mk.injEq, and_true] at h3'
  obtain ⟨e3, rfl⟩ := h3'
  rw [e3, h4] at k4
  simp only [Prod.mk.injEq, and_true] at k4
  have fu := fits hu
  have fv := fits hv
  have n1 := fu.n2
  have n2 := fv.n2
  have h5' := h5 64 (by omega)
  rw [k5 64 (by omega)] at h5'
  simp only [Prod.mk.injEq, and_true] at h5'
  obtain ⟨e5, rfl⟩ := h5'
  rw [k6] at h6
  simp only [Prod.mk.injEq, and_true] at h6
  obtain ⟨e6, rfl⟩ := h6
  rw [k7] at h7
  simp only [Prod.mk.injEq, and_true] at h7
  have e7 := h7
  have a1 := fu.a1
  have a2 := fv.a1
  have r1 := fu.r1
  have r2 := fv.r1
  have x1 := fu.x1
  have x2 := fv.x1
  have y1 := fu.y1
  have y2 := fv.y1
  obtain ⟨ua, ur, ub, up, ux, uy⟩ := u
  obtain ⟨va, vr, vb, vp, vx, vy⟩ := v
  simp only [] at *
  obtain rfl : ua = va := by omega
  obtain rfl : ur = vr := by omega
  obtain rfl : ux = vx := by omega
  obtain rfl : uy = vy := by omega
  rw [k4, e5]

def none : Vtx × Nat := ((0, 0, [], [], 0, 0), 3)
open Classical in
/-- What 'Take' answers. -/
noncomputable def take (s : List UInt8) (n : Int) : Vtx × Nat := if h : ∃ v, may v n = true ∧ bytes v = s then (choose h, 0) else none
theorem take_yes {s : List UInt8} {n : Int} {v : Vtx} (h : may v n = true) (hb : bytes v = s) : take s n = (v, 0) := by
  have he : ∃ v, may v n = true ∧ bytes v = s := ⟨v, h, hb⟩
  have hc := Classical.choose_spec he
  rw [take, dif_pos he]
  rw [inj hc.1 h (hc.2.trans hb.symm)]
theorem take_no {s : List UInt8} {n : Int} (h : ∀ v, may v n = true → bytes v ≠ s) : take s n = none := by
  rw [take, dif_neg]
  rintro ⟨v, hm, hb⟩
  exact h v hm hb
theorem take_or (s : List UInt8) (n : Int) : (take s n = none ∧ ∀ v, may v n = true → bytes v ≠ s) ∨ ∃ v, take s n = (v, 0) ∧ may v n = true ∧ bytes v = s := by
  by_cases he : ∃ v, may v n = true ∧ bytes v = s
  · obtain ⟨v, h, hb⟩ := he
    exact .inr ⟨v, take_yes h hb, h, hb⟩
  · have h : ∀ v, may v n = true → bytes v ≠ s := fun v hm hb => he ⟨v, hm, hb⟩
    exact .inl ⟨take_no h, h⟩
theorem back {v : Vtx} {n : Int} (h : may v n = true) : take (bytes v) n = (v, 0) := take_yes h rfl
theorem longer {v : Vtx} {n : Int} (more : List UInt8) (h : may v n = true) (hm : more ≠ []) : take (bytes v ++ more) n = none := by
  refine take_no fun u hu e => ?_
  obtain ⟨s1, s2, s3, s4, s5, h1, h2, h3, h4, h5, h6, h7⟩ := parts hu []
  obtain ⟨t1, t2, t3, t4, t5, k1, k2, k3, k4, k5, k6, k7⟩ := parts h more
  rw [List.append_nil, e, k1] at h1
  simp only [Prod.mk.injEq, and_true] at h1
  obtain ⟨_, rfl⟩ := h1
  rw [k2] at h2
  simp only [Prod.mk.injEq, and_true] at h2
  obtain ⟨_, rfl⟩ := h2
  have h3' := h3 300 (.inl (by omega))
  rw [k3 300 (.inl (by omega))] at h3'
  simp only [Prod.mk.injEq, and_true] at h3'
  obtain ⟨_, rfl⟩ := h3'
  have h5' := h5 n (by omega)
  rw [k5 n (by omega)] at h5'
  simp only [Prod.mk.injEq, and_true] at h5'
  obtain ⟨_, rfl⟩ := h5'
  rw [k6] at h6
  simp only [Prod.mk.injEq, and_true] at h6
  obtain ⟨_, rfl⟩ := h6
  rw [k7] at h7
  simp only [Prod.mk.injEq, and_true] at h7
  exact hm h7.2
theorem cut {v : Vtx} {n : Int} (k : Nat) (h : may v n = true) (hk : k < (bytes v).length) : take ((bytes v).take k) n = none := by
  rcases take_or ((bytes v).take k) n with ⟨e, _⟩ | ⟨c, _, hc, e⟩
  · exact e
  · exfalso
    have hne : (bytes v).drop k ≠ [] := by
      intro e
      have := congrArg List.length e
      simp at this
      omega
    have := longer ((bytes v).drop k) hc hne
    rw [e, List.take_append_drop, back h] at this
    simp [none] at this
theorem apart {a b : Vtx} {n : Int} (ha : may a n = true) (hb : may b n = true) : bytes a = bytes b ↔ a = b := ⟨inj ha hb, fun e => by rw [e]⟩
theorem turned {v : Vtx} {n : Int} (k : Nat) (y : UInt8) (h : may v n = true) (hk : k < (bytes v).length) (hy : (bytes v)[k] ≠ y) : (take ((bytes v).set k y) n).1 ≠ v ∧ ((take ((bytes v).set k y) n).2 = 3 ∨ (take ((bytes v).set k y) n).2 = 0) := by
  rcases take_or ((bytes v).set k y) n with ⟨e, _⟩ | ⟨c, e, hm, hc⟩
  · rw [e]
    refine ⟨fun e2 => ?_, .inl rfl⟩
    have := (fits h).a1
    rw [← e2] at this
    simp [none] at this
  · rw [e]
    refine ⟨fun e2 => ?_, .inr rfl⟩
    simp only [] at e2
    subst e2
    apply hy
    have h2 : ((bytes c).set k y)[k]? = (bytes c)[k]? := by rw [← hc]
    rw [List.getElem?_set_self hk, List.getElem?_eq_getElem hk] at h2
    simpa using h2.symm
theorem bytes_len {v : Vtx} {n : Int} (h : may v n = true) : (bytes v).length ≤ 4600 := by
  obtain ⟨n1, n2, a1, a2, r1, r2, b1, b2, p1, p2, x1, x2, y1, y2⟩ := fits h
  have ht : ∀ (l : List (List UInt8)) (c : Nat), (∀ t ∈ l, t.length ≤ c) → (texts l).length ≤ (c + 9) * l.length := by
    intro l c
    induction l with
    | nil => intro _; simp [texts]
    | cons t l ih =>
      intro hl
      have h1 := hl t (by simp)
      have h2 := ih fun x hx => hl x (by simp [hx])
      have := num_len t.length
      simp only [texts, text, List.length_append, List.length_cons, Nat.mul_add]
      omega
  have t1 := ht (v.2.2.1.map Bt.bytes) 300 (by
    intro t ht
    obtain ⟨b, hb, rfl⟩ := List.mem_map.1 ht
    exact Bt.bytes_len b (b2 b hb))
  have t2 := ht v.2.2.2.1 32 (fun t ht => by have := p2 t ht; omega)
  rw [List.length_map] at t1
  have l1 := num_len v.1.toNat
  have l2 := num_len v.2.1.toNat
  have l3 := num_len v.2.2.2.2.1.toNat
  have l4 := num_len v.2.2.2.2.2.toNat
  have l5 := num_len (v.2.2.1.map Bt.bytes).length
  have l6 := num_len v.2.2.2.1.length
  have p3 : v.2.2.2.1.length ≤ 64 := by omega
  simp only [bytes, row, List.length_append]
  omega
end Vt
