/- Shares: polynomials, weights and what they open, as plain functions, and their laws. No program is named here. -/
import Derived.Test.YtngmkokmomficaaGaussField2
namespace Sr
open Ga

theorem ok_inv (x : E) : ok (Ga.inv x).1 = true := by
  unfold Ga.inv
  split
  · exact ok_pow _ _
  · exact ok_zero

/-- The elements that may be. -/
abbrev F := {x : E // ok x = true}
instance : Add F := ⟨fun x y => ⟨Ga.add x.1 y.1, ok_add _ _⟩⟩
instance : Mul F := ⟨fun x y => ⟨Ga.mul x.1 y.1, ok_mul _ _⟩⟩
def zero : F := ⟨(0, 0), ok_zero⟩
def one : F := ⟨(1, 0), ok_one⟩
/-- One less than 0. -/
def m1 : F := ⟨(10006, 0), by decide⟩
def inv (x : F) : F := ⟨(Ga.inv x.1).1, ok_inv _⟩

theorem fadd_assoc (x y z : F) : x + y + z = x + (y + z) := by
  apply Subtype.ext
  show Ga.add (Ga.add x.1 y.1) z.1 = Ga.add x.1 (Ga.add y.1 z.1)
  rw [add_ok (ok_add _ _) z.2, add_ok x.2 (ok_add _ _), add_ok x.2 y.2, add_ok y.2 z.2]
  exact Prod.ext (by simp only; omega) (by simp only; omega)
theorem fadd_comm (x y : F) : x + y = y + x := Subtype.ext (Ga.add_comm _ _)
theorem fmul_assoc (x y z : F) : x * y * z = x * (y * z) := Subtype.ext (Ga.mul_assoc x.2 y.2 z.2)
theorem fmul_comm (x y : F) : x * y = y * x := Subtype.ext (Ga.mul_comm _ _)
theorem fmul_add (x y z : F) : x * (y + z) = x * y + x * z := Subtype.ext (Ga.mul_add x.2 y.2 z.2)
theorem fadd_mul (x y z : F) : (x + y) * z = x * z + y * z := by rw [fmul_comm, fmul_add, fmul_comm z, fmul_comm z]
theorem fmul_one (x : F) : x * one = x := Subtype.ext (Ga.one_mul x.2)
theorem fone_mul (x : F) : one * x = x := by rw [fmul_comm, fmul_one]
theorem fmul_zero (x : F) : x * zero = zero := Subtype.ext (Ga.mul_zero x.2)
theorem fzero_mul (x : F) : zero * x = zero := by rw [fmul_comm, fmul_zero]
theorem fadd_zero (x : F) : x + zero = x := Subtype.ext (Ga.add_zero x.2)
theorem fzero_add (x : F) : zero + x = x := by rw [fadd_comm, fadd_zero]
theorem one_m1 : one + m1 = zero := by decide
theorem m1_m1 : m1 * m1 = one := by decide
instance : Std.Associative (α := F) (· + ·) := ⟨fadd_assoc⟩
instance : Std.Commutative (α := F) (· + ·) := ⟨fadd_comm⟩
instance : Std.Associative (α := F) (· * ·) := ⟨fmul_assoc⟩
instance : Std.Commutative (α := F) (· * ·) := ⟨fmul_comm⟩
theorem add_m1 (x : F) : x + m1 * x = zero := by
  conv => lhs; lhs; rw [← fone_mul x]
  rw [← fadd_mul, one_m1, fzero_mul]
theorem m1_add (x y : F) (h : x + m1 * y = zero) : x = y := by
  have h1 : x + m1 * y + y = y := by rw [h, fzero_add]
  rw [fadd_assoc, fadd_comm (m1 * y) y, add_m1, fadd_zero] at h1
  exact h1
theorem ne_sub {x y : F} (h : x ≠ y) : x + m1 * y ≠ zero := fun e => h (m1_add x y e)
theorem fsub (x y : F) : (⟨Ga.sub x.1 y.1, ok_sub _ _⟩ : F) = x + m1 * y := by
  apply Subtype.ext
  show Ga.sub x.1 y.1 = Ga.add x.1 (Ga.mul (10006, 0) y.1)
  rw [sub_ok x.2 y.2, add_ok x.2 (ok_mul _ _), mul_ok (by decide) y.2]
  obtain ⟨h1, h2, h3, h4⟩ := (ok_iff _).1 y.2
  exact Prod.ext (by simp only; omega) (by simp only; omega)
theorem ne_zero {x : F} (h : x ≠ zero) : x.1 ≠ (0, 0) := fun e => h (Subtype.ext e)
theorem mul_inv {x : F} (h : x ≠ zero) : x * inv x = one := Subtype.ext (inv_mul x.2 (ne_zero h)).2.2
theorem inv_ne_zero {x : F} (h : x ≠ zero) : inv x ≠ zero := fun e => by
  have := mul_inv h
  rw [e, fmul_zero] at this
  exact absurd this (by decide)
theorem mul_ne_zero {x y : F} (hx : x ≠ zero) (hy : y ≠ zero) : x * y ≠ zero := fun e => by
  have h1 : (x * inv x) * y = zero := by
    rw [show x * inv x * y = inv x * (x * y) by ac_rfl, e, fmul_zero]
  rw [mul_inv hx, fone_mul] at h1
  exact hy h1
theorem mul_cancel {x y z : F} (hx : x ≠ zero) (h : x * y = x * z) : y = z := by
  have h1 : inv x * (x * y) = inv x * (x * z) := by rw [h]
  rw [← fmul_assoc, ← fmul_assoc, fmul_comm (inv x), mul_inv hx, fone_mul, fone_mul] at h1
  exact h1
theorem inv_of_mul {x y : F} (hx : x ≠ zero) (hy : y ≠ zero) : inv (x * y) = inv x * inv y := by
  apply mul_cancel (mul_ne_zero hx hy)
  rw [mul_inv (mul_ne_zero hx hy), show x * y * (inv x * inv y) = (x * inv x) * (y * inv y) by ac_rfl, mul_inv hx, mul_inv hy, fmul_one]
theorem one_ne : one ≠ zero := by decide
theorem m1_ne : m1 ≠ zero := by decide
theorem inv_one : inv one = one := by
  apply mul_cancel one_ne
  rw [mul_inv one_ne, fmul_one]
theorem add_cancel {x y z : F} (h : x + y = x + z) : y = z := by
  have h1 : m1 * x + (x + y) = m1 * x + (x + z) := by rw [h]
  rw [← fadd_assoc, ← fadd_assoc, fadd_comm (m1 * x) x, add_m1, fzero_add, fzero_add] at h1
  exact h1

/-- A product over those that aren't x. -/
def P (g : F → F) (x : F) : List F → F
  | [] => one
  | t :: l => if t = x then P g x l else g t * P g x l
theorem P_snoc (g : F → F) (x t : F) (l : List F) : P g x (l ++ [t]) = if t = x then P g x l else P g x l * g t := by
  induction l with
  | nil =>
    show P g x [t] = _
    unfold P
    split
    · rfl
    · show g t * P g x [] = P g x [] * g t
      rw [fmul_comm]
  | cons s l ih =>
    rw [List.cons_append, P, P, ih]
    split <;> split
    · rfl
    · rfl
    · rfl
    · rw [fmul_assoc]
theorem P_perm (g : F → F) (x : F) {l m : List F} (h : l.Perm m) : P g x l = P g x m := by
  induction h with
  | nil => rfl
  | cons t _ ih => rw [P, P, ih]
  | swap s t l =>
    simp only [P]
    split <;> split <;> first | rfl | ac_rfl
  | trans _ _ h1 h2 => rw [h1, h2]
theorem P_mul (g h : F → F) (x : F) (l : List F) : P (fun t => g t * h t) x l = P g x l * P h x l := by
  induction l with
  | nil => exact (fmul_one one).symm
  | cons t l ih =>
    simp only [P]
    split
    · exact ih
    · rw [ih]; ac_rfl
theorem P_ne (g : F → F) (x : F) (l : List F) (h : ∀ t ∈ l, t ≠ x → g t ≠ zero) : P g x l ≠ zero := by
  induction l with
  | nil => exact one_ne
  | cons t l ih =>
    have ih' := ih fun s hs => h s (List.mem_cons_of_mem _ hs)
    rw [P]
    split
    · exact ih'
    · rename_i hne
      exact mul_ne_zero (h t List.mem_cons_self hne) ih'
theorem P_inv (g : F → F) (x : F) (l : List F) (h : ∀ t ∈ l, t ≠ x → g t ≠ zero) : P (fun t => inv (g t)) x l = inv (P g x l) := by
  induction l with
  | nil => exact inv_one.symm
  | cons t l ih =>
    have h' : ∀ s ∈ l, s ≠ x → g s ≠ zero := fun s hs => h s (List.mem_cons_of_mem _ hs)
    simp only [P]
    split
    · exact ih h'
    · rename_i hne
      rw [ih h', inv_of_mul (h t List.mem_cons_self hne) (P_ne g x l h')]

/-- The weight of x among nodes. -/
def wt (x : F) (S : List F) : F := P (fun t => t * inv (t + m1 * x)) x S
section
variable {α : Type}
def sm (f : α → F) : List α → F
  | [] => zero
  | x :: S => f x + sm f S
theorem sm_snoc (f : α → F) (x : α) (S : List α) : sm f (S ++ [x]) = sm f S + f x := by
  induction S with
  | nil => exact fadd_comm _ _
  | cons s S ih => rw [List.cons_append, sm, sm, ih, fadd_assoc]
theorem sm_perm (f : α → F) {S T : List α} (h : S.Perm T) : sm f S = sm f T := by
  induction h with
  | nil => rfl
  | cons t _ ih => rw [sm, sm, ih]
  | swap s t l => simp only [sm]; ac_rfl
  | trans _ _ h1 h2 => rw [h1, h2]
theorem sm_congr {f g : α → F} {S : List α} (h : ∀ x ∈ S, f x = g x) : sm f S = sm g S := by
  induction S with
  | nil => rfl
  | cons s S ih => rw [sm, sm, h s List.mem_cons_self, ih fun x hx => h x (List.mem_cons_of_mem _ hx)]
theorem sm_add (f g : α → F) (S : List α) : sm (fun x => f x + g x) S = sm f S + sm g S := by
  induction S with
  | nil => exact (fadd_zero zero).symm
  | cons s S ih => simp only [sm]; rw [ih]; ac_rfl
theorem sm_mul (c : F) (f : α → F) (S : List α) : sm (fun x => c * f x) S = c * sm f S := by
  induction S with
  | nil => exact (fmul_zero c).symm
  | cons s S ih => simp only [sm]; rw [ih, fmul_add]
theorem sm_map {β : Type} (f : α → F) (g : β → α) (S : List β) : sm f (S.map g) = sm (fun x => f (g x)) S := by
  induction S with
  | nil => rfl
  | cons s S ih => rw [List.map_cons, sm, sm, ih]
theorem sm_set (f : α → F) (S : List α) (k : Nat) (h : k < S.length) (y : α) : sm f (S.set k y) + f S[k] = sm f S + f y := by
  induction S generalizing k with
  | nil => simp at h
  | cons s S ih =>
    cases k with
    | zero => simp only [List.set_cons_zero, sm, List.getElem_cons_zero]; ac_rfl
    | succ k =>
      have := ih k (by simpa using h)
      simp only [List.set_cons_succ, sm, List.getElem_cons_succ]
      rw [fadd_assoc, this, ← fadd_assoc]
end

def L (S : List F) (f : F → F) : F := sm (fun x => f x * wt x S) S
theorem L_perm {S T : List F} (h : S.Perm T) (f : F → F) : L S f = L T f := by
  unfold L
  rw [sm_perm _ h]
  exact sm_congr fun x _ => by simp only [wt]; rw [P_perm _ x h]
theorem L_add (S : List F) (f g : F → F) : L S (fun x => f x + g x) = L S f + L S g := by
  unfold L
  rw [← sm_add]
  exact sm_congr fun x _ => fadd_mul _ _ _
theorem L_mul (S : List F) (c : F) (f : F → F) : L S (fun x => c * f x) = c * L S f := by
  unfold L
  rw [← sm_mul]
  exact sm_congr fun x _ => fmul_assoc _ _ _
theorem L_congr {S : List F} {f g : F → F} (h : ∀ x ∈ S, f x = g x) : L S f = L S g :=
  sm_congr fun x hx => by rw [h x hx]

theorem L_div (a : F) (T : List F) (h : a ∉ T) (q : F → F) : L (a :: T) (fun x => (x + m1 * a) * q x) = m1 * a * L T q := by
  unfold L
  rw [sm]
  simp only
  rw [add_m1, fzero_mul, fzero_mul, fzero_add, ← sm_mul]
  refine sm_congr fun x hx => ?_
  have hne : a ≠ x := fun e => h (e ▸ hx)
  have hd : a + m1 * x ≠ zero := ne_sub hne
  have e : x + m1 * a = m1 * (a + m1 * x) := by
    rw [fmul_add, ← fmul_assoc, m1_m1, fone_mul, fadd_comm]
  rw [wt, P, if_neg hne, e]
  show m1 * (a + m1 * x) * q x * (a * inv (a + m1 * x) * wt x T) = m1 * a * (q x * wt x T)
  rw [show m1 * (a + m1 * x) * q x * (a * inv (a + m1 * x) * wt x T) = (a + m1 * x) * inv (a + m1 * x) * (m1 * a * (q x * wt x T)) by ac_rfl, mul_inv hd, fone_mul]

theorem L_one : ∀ (S : List F), S.Nodup → S ≠ [] → L S (fun _ => one) = one := by
  intro S
  induction h : S.length generalizing S with
  | zero => intro _ h0; exact absurd (List.length_eq_zero_iff.1 h) h0
  | succ n ih =>
    intro hn _
    match S, h, hn with
    | [a], _, _ =>
      show one * wt a [a] + zero = one
      rw [fadd_zero, fone_mul, wt, P, if_pos rfl]
      rfl
    | a :: b :: T, h, hn =>
      rw [List.nodup_cons, List.nodup_cons, List.mem_cons, not_or] at hn
      obtain ⟨⟨hab, haT⟩, hbT, hT⟩ := hn
      have h1 : L (b :: T) (fun _ => one) = one := ih (b :: T) (by simpa using h) (List.nodup_cons.2 ⟨hbT, hT⟩) (by simp)
      have h2 : L (a :: T) (fun _ => one) = one := ih (a :: T) (by simpa using h) (List.nodup_cons.2 ⟨haT, hT⟩) (by simp)
      have k1 := L_div a (b :: T) (by rw [List.mem_cons, not_or]; exact ⟨hab, haT⟩) (fun _ => one)
      have k2 := L_div b (a :: T) (by rw [List.mem_cons, not_or]; exact ⟨fun e => hab e.symm, hbT⟩) (fun _ => one)
      rw [h1, fmul_one] at k1
      rw [h2, fmul_one, L_perm (List.Perm.swap a b T)] at k2
      have hd : b + m1 * a ≠ zero := ne_sub fun e => hab e.symm
      apply mul_cancel hd
      rw [← L_mul]
      have k3 : L (a :: b :: T) (fun _ => (b + m1 * a) * one) = L (a :: b :: T) (fun x => (x + m1 * a) * one + m1 * ((x + m1 * b) * one)) := by
        refine L_congr fun x _ => ?_
        rw [fmul_one, fmul_one, fmul_one, fmul_add, ← fmul_assoc m1 m1, m1_m1, fone_mul]
        rw [show x + m1 * a + (m1 * x + b) = (x + m1 * x) + (b + m1 * a) by ac_rfl, add_m1, fzero_add]
      rw [k3, L_add, L_mul, k1, k2, fmul_one, ← fmul_assoc, m1_m1, fone_mul, fadd_comm]

/-- A polynomial's value. -/
def ev : List F → F → F
  | [], _ => zero
  | c :: p, x => ev p x * x + c
theorem L_ev : ∀ (p : List F) (S : List F), S.Nodup → p.length ≤ S.length → L S (ev p) = ev p zero := by
  intro p
  induction p with
  | nil =>
    intro S _ _
    have : L S (ev []) = L S (fun x => zero * zero) := L_congr fun x _ => by rw [fmul_zero]; rfl
    rw [this, L_mul, fzero_mul]
    rfl
  | cons c p ih =>
    intro S hn hl
    match S, hn, hl with
    | [], _, hl => simp at hl
    | a :: T, hn, hl =>
      have hl' : p.length ≤ T.length := by simpa using hl
      have hnT := (List.nodup_cons.1 hn).2
      have i1 := ih T hnT hl'
      have i2 := ih (a :: T) hn (by simp; omega)
      have k := L_div a T (List.nodup_cons.1 hn).1 (ev p)
      have e : L (a :: T) (ev (c :: p)) = L (a :: T) (fun x => ((x + m1 * a) * ev p x + a * ev p x) + c * one) := by
        refine L_congr fun x _ => ?_
        rw [← fadd_mul, fadd_assoc, fadd_comm (m1 * a) a, add_m1, fadd_zero, fmul_one, fmul_comm]
        rfl
      rw [e, L_add, L_add, L_mul, L_mul, k, i1, i2, L_one (a :: T) hn (by simp), fmul_one, ← fadd_mul, fadd_comm (m1 * a) a, add_m1, fzero_mul, fzero_add]
      show c = ev p zero * zero + c
      rw [fmul_zero, fzero_add]
theorem ev_zero (c : F) (p : List F) : ev (c :: p) zero = c := by
  rw [ev, fmul_zero, fzero_add]
theorem wt_ne (x : F) (S : List F) (h : ∀ t ∈ S, t ≠ zero) : wt x S ≠ zero :=
  P_ne _ _ _ fun t ht hne => mul_ne_zero (h t ht) (inv_ne_zero (ne_sub hne))
theorem wt_split (x : F) (S : List F) : wt x S = P (fun t => t) x S * inv (P (fun t => t + m1 * x) x S) := by
  rw [wt, P_mul, P_inv _ _ _ fun t _ hne => ne_sub hne]
end Sr
