/- Polynomials, shares and numbers that came in. -/
import Derived.Test.YtngmkokmomficaaShShown
import Derived.Test.YtngmkokmomficaaOpenEl
import Derived.Test.YtngmkokmomficaaOpenInts
namespace Go.Proofs.Ytngmkokmomficaa
open Go.RowKit Go.ChangeShapes Go.WideShapes Go.ChangeAt

section
variable {H : Type} {enc : TypeId × Value → H} {W : World}
theorem elem_el (n : Nat) (cs : List Value) (x : DataW H × List MemPlace) (hl : cs.length = 2) (h : DataW.trod enc Try.prog W 0 (fun _ => true) true n 24 cs = some x) :
    ∃ c : Ga.E, cs = [.int .i64 c.1, .int .i64 c.2] ∧ (-9223372036854775808 ≤ c.1 ∧ c.1 ≤ 9223372036854775807) := by
  obtain ⟨xs, m, _, rfl, _, hlen, hf⟩ := DataW.trod_struct Try.underlying24 h
  have k1 : Try.prog.cellsOf 3 = 1 := by kernel_rfl
  match cs, hl, xs, hlen with
  | [a, b], _, [y0, y1], _ =>
    have h0 := hf 0 _ rfl
    have h1 := hf 1 _ rfl
    obtain ⟨i, w1, w2, rfl, _⟩ := trod_i64 (v := a) (y := y0) Try.underlying3 (by simpa [k1] using h0)
    obtain ⟨j, _, _, rfl, _⟩ := trod_i64 (v := b) (y := y1) Try.underlying3 (by simpa [k1] using h1)
    exact ⟨(i, j), rfl, w1, w2⟩
theorem elem_shr (n : Nat) (cs : List Value) (x : DataW H × List MemPlace) (hl : cs.length = 3) (h : DataW.trod enc Try.prog W 0 (fun _ => true) true n 27 cs = some x) :
    ∃ s : Sr.Shr, cs = [.int .i64 s.1, .int .i64 s.2.1, .int .i64 s.2.2] ∧ (-9223372036854775808 ≤ s.1 ∧ s.1 ≤ 9223372036854775807) := by
  obtain ⟨xs, m, _, rfl, _, hlen, hf⟩ := DataW.trod_struct Try.underlying27 h
  have k1 : Try.prog.cellsOf 3 = 1 := by kernel_rfl
  have k2 : Try.prog.cellsOf 24 = 2 := by kernel_rfl
  match cs, hl, xs, hlen with
  | [a, b, c], _, [y0, y1], _ =>
    have h0 := hf 0 _ rfl
    have h1 := hf 1 _ rfl
    obtain ⟨i, w1, w2, rfl, _⟩ := trod_i64 (v := a) (y := y0) Try.underlying3 (by simpa [k1] using h0)
    obtain ⟨e, he, _⟩ := elem_el _ [b, c] y1 rfl (by simpa [k2] using h1)
    simp only [List.cons.injEq] at he
    obtain ⟨rfl, rfl, _⟩ := he
    exact ⟨(i, e), rfl, w1, w2⟩
end
theorem flatMap_len {α : Type} (f : α → List Value) (K : Nat) (hf : ∀ a, (f a).length = K) (l : List α) : (l.flatMap f).length = l.length * K := by
  induction l with
  | nil => simp
  | cons a l ih =>
    rw [List.flatMap_cons, List.length_append, hf, ih, List.length_cons, Nat.succ_mul]
    omega
theorem flatMap_get {α : Type} (f : α → List Value) (K : Nat) (hf : ∀ a, (f a).length = K) (l : List α) (k : Nat) (hk : k < l.length) (j : Nat) (hj : j < K) : (l.flatMap f)[k * K + j]? = (f l[k])[j]? := by
  induction l generalizing k with
  | nil => simp at hk
  | cons a l ih =>
    rw [List.flatMap_cons]
    cases k with
    | zero =>
      rw [List.getElem?_append_left (by rw [hf]; omega)]
      simp
    | succ k =>
      rw [List.getElem?_append_right (by rw [hf, Nat.succ_mul]; omega), hf, show (k + 1) * K + j - K = k * K + j by rw [Nat.succ_mul]; omega]
      exact ih k (by simpa using hk)
/-- Rows of a fixed number of cells, as a flat row. -/
theorem flat_of {α : Type} {W : World} (f : α → List Value) (K : Nat) (hf : ∀ a, (f a).length = K) (hK : 0 < K) (ad : Addr) (cap : Nat) (l : List α) (hcap : l.length ≤ cap) (hs : 0 < cap → ad.spot = none)
    (h : ∀ k (hk : k < l.length), ∀ j u, (f l[k])[j]? = some u → W.cell? (ad.add (k * K + j)) = some u) : FlatAt W (.slice (some ad) l.length cap) K (l.flatMap f) := by
  have hlen := flatMap_len f K hf l
  by_cases h0 : l.length = 0
  · have : l = [] := List.length_eq_zero_iff.1 h0
    subst this
    exact .inl ⟨_, _, rfl, rfl⟩
  · obtain ⟨b, off, spot⟩ := ad
    obtain rfl : spot = none := hs (by omega)
    refine .inr ⟨b, off, l.length, cap, rfl, hlen, fun i hi => ?_⟩
    have hi' : i < l.length * K := by rw [← hlen]; exact hi
    have hik : i / K < l.length := Nat.div_lt_of_lt_mul (by rw [Nat.mul_comm]; exact hi')
    have hm : i % K < K := Nat.mod_lt _ hK
    have hget := flatMap_get f K hf l (i / K) hik (i % K) hm
    rw [show i / K * K + i % K = i by rw [Nat.mul_comm]; exact Nat.div_add_mod i K] at hget
    rw [List.getElem?_eq_getElem hi] at hget
    have := h (i / K) hik (i % K) _ hget.symm
    rw [show i / K * K + i % K = i by rw [Nat.mul_comm]; exact Nat.div_add_mod i K] at this
    have ha : (⟨b, off, none⟩ : Addr).add i = ⟨b, off + i, none⟩ := by unfold Addr.add; split <;> simp_all
    rwa [ha] at this

section
variable {H : Type} {enc : TypeId × Value → H} {W : World} {n : Nat} {v : Value} {y : DataW H × List MemPlace}
theorem trod_elems (h : DataW.trod enc Try.prog W 0 (fun _ => true) true n 22 [v] = some y) (hw : (DataW.weights Try.prog 22 y.1).all (· ≤ reachBytes) = true) :
    ∃ p : List Ga.E, FlatAt W v 2 (elems p) ∧ p.length * 16 ≤ 140737488351232 := by
  rcases open_rows (K := 2) (fun (c : Ga.E) cs (_ : DataW H) => cs = [.int .i64 c.1, .int .i64 c.2]) Try.underlying22 (by kernel_rfl) (by decide) (fun n cs x hl h => by obtain ⟨c, hc, _⟩ := elem_el n cs x hl h; exact ⟨c, hc⟩) h with ⟨rfl, _⟩ | ⟨ad, cap, l, D, sp, rfl, h1, h2, hs, hy, hD, hc⟩
  · exact ⟨[], .inl ⟨none, 0, rfl, rfl⟩, by simp⟩
  · rw [hy] at hw
    have := open_len Try.underlying22 (by kernel_rfl : Try.prog.bytesOf 24 = 16) hw
    refine ⟨l, flat_of (fun c : Ga.E => [iv c.1, iv c.2]) 2 (fun _ => rfl) (by decide) ad cap l h1 hs fun k hk j u hj => ?_, by rw [← hD]; exact this⟩
    obtain ⟨cs, _, rfl, g⟩ := hc k hk (by omega)
    exact g j u hj
theorem trod_shrs (h : DataW.trod enc Try.prog W 0 (fun _ => true) true n 35 [v] = some y) (hw : (DataW.weights Try.prog 35 y.1).all (· ≤ reachBytes) = true) :
    ∃ l : List Sr.Shr, FlatAt W v 3 (shrs l) ∧ l.length * 24 ≤ 140737488351232 ∧ Wide l := by
  rcases open_rows (K := 3) (fun (s : Sr.Shr) cs (_ : DataW H) => cs = [.int .i64 s.1, .int .i64 s.2.1, .int .i64 s.2.2] ∧ (-9223372036854775808 ≤ s.1 ∧ s.1 ≤ 9223372036854775807)) Try.underlying35 (by kernel_rfl) (by decide) (fun n cs x hl h => elem_shr n cs x hl h) h with ⟨rfl, _⟩ | ⟨ad, cap, l, D, sp, rfl, h1, h2, hs, hy, hD, hc⟩
  · exact ⟨[], .inl ⟨none, 0, rfl, rfl⟩, by simp, fun s hs => by cases hs⟩
  · rw [hy] at hw
    have := open_len Try.underlying35 (by kernel_rfl : Try.prog.bytesOf 27 = 24) hw
    refine ⟨l, flat_of (fun s : Sr.Shr => [iv s.1, iv s.2.1, iv s.2.2]) 3 (fun _ => rfl) (by decide) ad cap l h1 hs fun k hk j u hj => ?_, by rw [← hD]; exact this, fun s hs => ?_⟩
    · obtain ⟨cs, _, ⟨rfl, _⟩, g⟩ := hc k hk (by omega)
      exact g j u hj
    · obtain ⟨k, hk, rfl⟩ := List.mem_iff_getElem.1 hs
      obtain ⟨_, _, ⟨_, g⟩, _⟩ := hc k hk (by omega)
      exact g
end
end Go.Proofs.Ytngmkokmomficaa
