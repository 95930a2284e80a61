/- Opening ballots that came in. -/
import Derived.Test.YtjngjmhhfhkbkaaOpenRows
import Derived.Test.YtjngjmhhfhkbkaaVotGive
namespace Go.Proofs.Ytjngjmhhfhkbkaa
open Go.RowKit Go.ChangeShapes Go.WideShapes Go.ChangeAt

theorem elem_ballot {H : Type} {enc : TypeId × Value → H} {W : World} (n : Nat) (cs : List Value) (x : DataW H × List MemPlace) (hl : cs.length = 3) (h : DataW.trod enc Try.prog W 0 (fun _ => true) true n 24 cs = some x) :
    ∃ a : Vt.Bl, (fun (a : Vt.Bl) cs (_ : DataW H) => cs = [iv a.1, iv a.2.1, tx a.2.2]) a cs x.1 := by
  obtain ⟨y0, y1, y2, m, _, _, h0, h1, h2⟩ := Go.Deep.trod_struct3 Try.underlying24 h
  have k1 : Try.prog.cellsOf 3 = 1 := by kernel_rfl
  have k2 : Try.prog.cellsOf 9 = 1 := by kernel_rfl
  match cs, hl with
  | [a, b, c], _ =>
    obtain ⟨a', _, _, rfl, _⟩ := trod_i64 (v := a) Try.underlying3 (by simpa [k1] using h0)
    obtain ⟨b', _, _, rfl, _⟩ := trod_i64 (v := b) Try.underlying3 (by simpa [k1] using h1)
    obtain ⟨c', rfl, _⟩ := trod_tx (v := c) Try.underlying9 (by simpa [k2] using h2)
    exact ⟨(a', b', c'), rfl⟩

theorem trod_ballots {H : Type} {enc : TypeId × Value → H} {W : World} {n : Nat} {v : Value} {y : DataW H × List MemPlace} (h : DataW.trod enc Try.prog W 0 (fun _ => true) true n 22 [v] = some y)
    (hsz : (DataW.weights Try.prog 22 y.1).all (· ≤ reachBytes) = true) : ∃ l, BalAt W v l ∧ l.length ≤ 4398046510976 := by
  rcases open_rows (K := 3) (fun (a : Vt.Bl) cs (_ : DataW H) => cs = [iv a.1, iv a.2.1, tx a.2.2]) Try.underlying22 (by kernel_rfl) (by decide) elem_ballot h with ⟨rfl, _⟩ | ⟨ad, cap, l, D, sp, rfl, h1, h2, hs, hy, hD, hc⟩
  · exact ⟨[], .inl ⟨none, rfl, rfl⟩, by simp⟩
  · rw [hy] at hsz
    have hb := open_len (B := 32) Try.underlying22 (by kernel_rfl) hsz
    refine ⟨l, ?_, by omega⟩
    cases l with
    | nil =>
      have h0 : cap = 0 ∨ 0 < cap := by omega
      rcases h0 with rfl | _
      · exact .inl ⟨some ad, rfl, rfl⟩
      · obtain ⟨b, off, spot⟩ := ad
        obtain rfl : spot = none := hs (by omega)
        exact .inr ⟨b, off, cap, rfl, h1, h2, fun k hk => absurd hk (by simp)⟩
    | cons x l =>
      obtain ⟨b, off, spot⟩ := ad
      obtain rfl : spot = none := hs (by simp at h1; omega)
      refine .inr ⟨b, off, cap, rfl, h1, h2, fun k hk => ?_⟩
      obtain ⟨cs, _, hq, hcell⟩ := hc k hk (by rw [hD]; exact hk)
      subst hq
      have ha : ∀ j, (⟨b, off, none⟩ : Addr).add j = ⟨b, off + j, none⟩ := fun j => by unfold Addr.add; split <;> simp_all
      have c0 := hcell 0 _ rfl
      have c1 := hcell 1 _ rfl
      have c2 := hcell 2 _ rfl
      rw [ha] at c0 c1 c2
      exact ⟨c0, c1, c2⟩

theorem open_ballot {H : Type} {enc : TypeId × Value → H} {W : World} {base : Nat} {v : Value} {d : DataW H} {p : List MemPlace} (o : Value.okWide Try.prog W .any base 24 v) (h : DataW.Trod enc Try.prog W 0 (fun _ => true) true 24 v d p) :
    ∃ s : Vt.Bl, v = bval s := by
  obtain ⟨a0, a1, a2, y0, y1, y2, m, rfl, rfl, _, e0, e1, e2⟩ := Joins.open_agg3 Try.underlying24 (by kernel_rfl) (by kernel_rfl) o h
  obtain ⟨a, _, _, rfl, _⟩ := trod_i64 Try.underlying3 e0
  obtain ⟨b, _, _, rfl, _⟩ := trod_i64 Try.underlying3 e1
  obtain ⟨c, rfl, _⟩ := trod_tx Try.underlying9 e2
  exact ⟨(a, b, c), rfl⟩
end Go.Proofs.Ytjngjmhhfhkbkaa
