/- A cutter that came in; a row appended to, wherever it is read from. -/
import Derived.Test.YtldhkgelifmipaaDoorCutSame
import Derived.Test.YtldhkgelifmipaaDoorOpenTxs2
import Derived.Lib.SmallJoins
namespace Go.Proofs.YtldhkgelifmipaaDoor
open Go.RowKit Go.ChangeShapes Go.WideShapes Go.ChangeAt

section
variable {H : Type} {enc : TypeId × Value → H} {W : World} {base : Nat} {v : Value} {d : DataW H} {p : List MemPlace}
theorem open_cut (o : Value.okWide Tryd.prog W .any base 24 v) (h : DataW.Trod enc Tryd.prog W 0 (fun _ => true) true 24 v d p) :
    ∃ (c : Ct.Blk) (u : Value), v = blkV c u ∧ TxAt W u c.2.2 ∧ c.1 ≤ 9223372036854775807 ∧ Dg.sizes c.2.2 ≤ Rows.uptoBulk d ∧ c.2.1.length ≤ Rows.uptoBulk d := by
  obtain ⟨a0, a1, a2, y0, y1, y2, n, rfl, rfl, _, e0, e1, e2⟩ := Joins.open_agg3 Tryd.underlying24 (by kernel_rfl) (by kernel_rfl) o h
  obtain ⟨x, _, hx, rfl, rfl⟩ := trod_i64 Tryd.underlying3 e0
  obtain ⟨q, rfl, rfl⟩ := trod_tx Tryd.underlying9 e1
  obtain ⟨ls, hv, hl⟩ := trod_txs Tryd.underlying22 e2
  refine ⟨(x, q, ls), a2, rfl, hv, hx, ?_, ?_⟩
  · simp only [Rows.uptoBulk, Rows.uptoBulkAll]
    omega
  · simp only [Rows.uptoBulk, Rows.uptoBulkAll]
    omega
theorem trod_src {n : Nat} {t : TypeId} {y : DataW H × List MemPlace} (ht : Tryd.prog.underlying t = some (.slice 9)) (h : DataW.trod enc Tryd.prog W 0 (fun _ => true) true n t [v] = some y) : v = .slice none 0 0 ∨ ∃ ad l c, v = .slice (some ad) l c := by
  rcases open_strings ht Tryd.underlying9 (by kernel_rfl) h with ⟨hv, rfl⟩ | ⟨a, len, cap, ss, hv, _⟩
  · cases hv
    exact .inl rfl
  · cases hv
    exact .inr ⟨_, _, _, rfl⟩
end
/-- Where the cells of a row are read from. -/
def Src (w : World) (xv : Value) (m : Nat) (news : List Value) : Prop := (xv = .slice none 0 0 ∧ m = 0) ∨ ∃ ad c, xv = .slice (some ad) m c ∧ ∀ j u, news[j]? = some u → w.cell? (ad.add j) = some u
theorem Src.below {w w' : World} {xv : Value} {m : Nat} {news : List Value} (h : Src w xv m news) (hb : Below w.heap.size w w') : Src w' xv m news := by
  rcases h with h | ⟨ad, c, hv, hc⟩
  · exact .inl h
  · exact .inr ⟨ad, c, hv, fun j u hj => below_cell hb (hc j u hj)⟩
theorem Src.own {w : World} {B k m : Nat} {t : TypeId} {v : Value} {cs : List Value} (h : w.ownsRow B t k v m cs) : Src w v m cs := by
  rcases h.2 with ⟨rfl, rfl⟩ | ⟨g, cap, cur, rfl, _⟩
  · exact .inl ⟨rfl, rfl⟩
  · exact .inr ⟨_, _, rfl, h.cells (g := g) rfl⟩
theorem Src.txs {w : World} {v : Value} {ls : List (List UInt8)} (h : TxAt w v ls) (hv : v = .slice none 0 0 ∨ ∃ ad l c, v = .slice (some ad) l c) : Src w v ls.length (ls.map tx) := by
  rcases h.src with ⟨cap, rfl, rfl⟩ | h
  · rcases hv with hv | ⟨ad, l, c, hv⟩
    · exact .inl ⟨hv, rfl⟩
    · cases hv
  · exact .inr h
theorem append_src {P : Program} {w : World} {ops : Array Oper} {rest : List Oper} {o : Oper} {a : Act} {Q : Exit → Act → World → Prop} (hgd : o.guard = none) (s x : Operand) (t : TypeId)
    (ho : o.op = .call { callee := .builtin .append, args := #[s, x], argTypes := #[t, t] })
    (base : Nat) (e : TypeId) (i : TypeInfo) (z : Value) (size bytes : Nat) (ht : P.underlying t = some (.slice e)) (hi : P.info? e = some i) (hz : i.zero = some z)
    (hsize : i.size = size) (hby : i.bytes = bytes) (hzs : z.cells.size = size) (hsz : 0 < size)
    (v : Value) (n : Nat) (xs : List Value) (hs : a.eval s = v) (hown : w.ownsRow base e size v n xs)
    (xv : Value) (m : Nat) (news : List Value) (hx : a.eval x = xv) (hl : news.length = m * size) (hsrc : Src w xv m news) (h1 : ∀ u ∈ news, u.oneCell' = true)
    (h63 : n + m ≤ maxLen) (hbytes : (n + m) * bytes ≤ 140737488355328) (hbase : base ≤ w.heap.size)
    (h : ∀ v' w', w'.ownsRow base e size v' (n + m) (xs ++ news) → w.grownBy w' v.ownBlock → wpList P ops Q rest (a.put o.dst v') w') : wpList P ops Q (o :: rest) a w := by
  rcases hsrc with ⟨hv, rfl⟩ | ⟨ad, c, hv, hc⟩
  · obtain rfl : news = [] := List.length_eq_zero_iff.1 (by omega)
    exact wpList_append_own_none hgd s x t ho base e i size ht hi v n xs hs hown (hx.trans hv) (h v w (by simpa using hown) ⟨rfl, rfl, rfl, Nat.le_refl _, fun _ _ _ => rfl⟩)
  · exact wpList_append_own w hgd s x t ho base e i z size bytes ht hi hz hsize hby hzs hsz v n xs hs hown ad m c news (hx.trans hv) hl hc h1 h63 hbytes hbase fun v' w' h2 h3 _ => h v' w' h2 h3
theorem BlksM.later {w w' : World} {cs : List Value} {bs : List Ct.Blk} (h : BlksM 0 w.heap.size w cs bs) (hb : Below w.heap.size w w') : BlksM w'.heap.size w'.heap.size w' cs bs :=
  ((h.all (Nat.le_refl _)).keep (Stays.of hb)).mono hb.size hb.size
end Go.Proofs.YtldhkgelifmipaaDoor
