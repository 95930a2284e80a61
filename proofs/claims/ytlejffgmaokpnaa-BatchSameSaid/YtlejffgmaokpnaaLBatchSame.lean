/- BatchSame: the walk. -/
import Derived.Test.YtlejffgmaokpnaaBatOpen
namespace Go.Proofs.Ytlejffgmaokpnaa
open Go.RowKit Go.ChangeShapes Go.WideShapes Go.ChangeAt

set_option maxHeartbeats 4000000 in
theorem batchSame_core (a b : Bt.Bat) (va vb : Value) (W : World) (ha : TxAt W va a.2.2) (hb : TxAt W vb b.2.2) (la : a.2.2.length ≤ 140737488351232) :
    Calls Try.prog 4 #[batV a.1 a.2.1 va, batV b.1 b.2.1 vb] W fun e W' => e = .returned (.bool true) ∧ Below W.heap.size W W' := by
  obtain ⟨r, hr⟩ : ∃ r, (a == b) = r := ⟨_, rfl⟩
  have HR := Lib.hid hr
  have HA := Lib.hid ha
  have HB := Lib.hid hb
  obtain ⟨x, y, l⟩ := a
  obtain ⟨z, u, m⟩ := b
  obtain ⟨aa, ca, rfl⟩ := ha.len
  obtain ⟨ab, cb, rfl⟩ := hb.len
  have e1 : ∀ t : Bool, (t == t) = true := fun t => by cases t <;> rfl
  simp only [] at HA HB la
  have hbA := (BBox.new W x y (.slice aa l.length ca)).alloc (.cells #[.int .i64 z, .int .i64 u, .slice ab m.length cb] 25)
  have hbB := BBox.new (W.alloc (.cells #[.int .i64 x, .int .i64 y, .slice aa l.length ca] 25)) z u (.slice ab m.length cb)
  have hg : Below W.heap.size W ((W.alloc (.cells #[.int .i64 x, .int .i64 y, .slice aa l.length ca] 25)).alloc (.cells #[.int .i64 z, .int .i64 u, .slice ab m.length cb] 25)) := ((Below.refl _ _).alloc (Nat.le_refl _) _).alloc (by simp) _
  have BA := Lib.hid hbA
  have BB := Lib.hid hbB
  have HG := Lib.hid hg
  clear ha hb hr hbA hbB hg
  simp only [batV]
  go_enter Try.func4, Try.ntmps4
  go_wp2_with fail
  refine (batShown _).mono ?_
  rintro e w1 ⟨rfl, g1⟩
  have b1 := BA.out.kept g1
  have b2 := BB.out.kept g1
  simp only [World.size_alloc] at b2
  obtain ⟨c0, c1, c2, _⟩ := b1.facts
  obtain ⟨d0, d1, d2, _⟩ := b2.facts
  have G1 := Lib.hid (HG.out.trans (g1.mono (by simp; omega)))
  clear b1 b2 g1 BA BB HG
  have hk := Lib.hid (show ∀ a b : World, (fun w' : World => w'.cell? ⟨W.heap.size, 0, none⟩ = some (.int .i64 x) ∧ w'.cell? ⟨W.heap.size, 1, none⟩ = some (.int .i64 y) ∧ w'.cell? ⟨W.heap.size, 2, none⟩ = some (.slice aa l.length ca) ∧ w'.cell? ⟨W.heap.size + 1, 0, none⟩ = some (.int .i64 z) ∧ w'.cell? ⟨W.heap.size + 1, 1, none⟩ = some (.int .i64 u) ∧ w'.cell? ⟨W.heap.size + 1, 2, none⟩ = some (.slice ab m.length cb) ∧ Below W.heap.size W w') a → Below a.heap.size a b → (fun w' : World => w'.cell? ⟨W.heap.size, 0, none⟩ = some (.int .i64 x) ∧ w'.cell? ⟨W.heap.size, 1, none⟩ = some (.int .i64 y) ∧ w'.cell? ⟨W.heap.size, 2, none⟩ = some (.slice aa l.length ca) ∧ w'.cell? ⟨W.heap.size + 1, 0, none⟩ = some (.int .i64 z) ∧ w'.cell? ⟨W.heap.size + 1, 1, none⟩ = some (.int .i64 u) ∧ w'.cell? ⟨W.heap.size + 1, 2, none⟩ = some (.slice ab m.length cb) ∧ Below W.heap.size W w') b from fun a b ⟨k0, k1, k2, k3, k4, k5, kb⟩ h => ⟨below_cell h k0, below_cell h k1, below_cell h k2, below_cell h k3, below_cell h k4, below_cell h k5, grow_trans kb h⟩)
  have hS : (fun w' : World => w'.cell? ⟨W.heap.size, 0, none⟩ = some (.int .i64 x) ∧ w'.cell? ⟨W.heap.size, 1, none⟩ = some (.int .i64 y) ∧ w'.cell? ⟨W.heap.size, 2, none⟩ = some (.slice aa l.length ca) ∧ w'.cell? ⟨W.heap.size + 1, 0, none⟩ = some (.int .i64 z) ∧ w'.cell? ⟨W.heap.size + 1, 1, none⟩ = some (.int .i64 u) ∧ w'.cell? ⟨W.heap.size + 1, 2, none⟩ = some (.slice ab m.length cb) ∧ Below W.heap.size W w') w1 := ⟨c0, c1, c2, d0, d1, d2, G1.out⟩
  have hp := Lib.hid (show ∀ p q : Value, (p = .slice aa l.length ca ∧ q = .slice ab m.length cb) → ∀ W', (fun w' : World => w'.cell? ⟨W.heap.size, 0, none⟩ = some (.int .i64 x) ∧ w'.cell? ⟨W.heap.size, 1, none⟩ = some (.int .i64 y) ∧ w'.cell? ⟨W.heap.size, 2, none⟩ = some (.slice aa l.length ca) ∧ w'.cell? ⟨W.heap.size + 1, 0, none⟩ = some (.int .i64 z) ∧ w'.cell? ⟨W.heap.size + 1, 1, none⟩ = some (.int .i64 u) ∧ w'.cell? ⟨W.heap.size + 1, 2, none⟩ = some (.slice ab m.length cb) ∧ Below W.heap.size W w') W' → Calls Try.prog 12 #[batV x y p, batV z u q] W' fun e w' => e = .returned (.bool r) ∧ (fun w' : World => w'.cell? ⟨W.heap.size, 0, none⟩ = some (.int .i64 x) ∧ w'.cell? ⟨W.heap.size, 1, none⟩ = some (.int .i64 y) ∧ w'.cell? ⟨W.heap.size, 2, none⟩ = some (.slice aa l.length ca) ∧ w'.cell? ⟨W.heap.size + 1, 0, none⟩ = some (.int .i64 z) ∧ w'.cell? ⟨W.heap.size + 1, 1, none⟩ = some (.int .i64 u) ∧ w'.cell? ⟨W.heap.size + 1, 2, none⟩ = some (.slice ab m.length cb) ∧ Below W.heap.size W w') w' from fun p q h W' hs => by
    obtain ⟨rfl, rfl⟩ := h
    exact keepB (fun w' : World => w'.cell? ⟨W.heap.size, 0, none⟩ = some (.int .i64 x) ∧ w'.cell? ⟨W.heap.size, 1, none⟩ = some (.int .i64 y) ∧ w'.cell? ⟨W.heap.size, 2, none⟩ = some (.slice aa l.length ca) ∧ w'.cell? ⟨W.heap.size + 1, 0, none⟩ = some (.int .i64 z) ∧ w'.cell? ⟨W.heap.size + 1, 1, none⟩ = some (.int .i64 u) ∧ w'.cell? ⟨W.heap.size + 1, 2, none⟩ = some (.slice ab m.length cb) ∧ Below W.heap.size W w') hk.out (pbsame_eq (a := (x, y, l)) (b := (z, u, m)) HR.out W' (HA.out.below hs.2.2.2.2.2.2) (HB.out.below hs.2.2.2.2.2.2) la) hs)
  have hp2 := Lib.hid (show ∀ W', (fun w' : World => w'.cell? ⟨W.heap.size, 0, none⟩ = some (.int .i64 x) ∧ w'.cell? ⟨W.heap.size, 1, none⟩ = some (.int .i64 y) ∧ w'.cell? ⟨W.heap.size, 2, none⟩ = some (.slice aa l.length ca) ∧ w'.cell? ⟨W.heap.size + 1, 0, none⟩ = some (.int .i64 z) ∧ w'.cell? ⟨W.heap.size + 1, 1, none⟩ = some (.int .i64 u) ∧ w'.cell? ⟨W.heap.size + 1, 2, none⟩ = some (.slice ab m.length cb) ∧ Below W.heap.size W w') W' → Calls Try.prog 12 #[batV x y (.slice aa l.length ca), batV x y (.slice aa l.length ca)] W' fun e w' => e = .returned (.bool true) ∧ (fun w' : World => w'.cell? ⟨W.heap.size, 0, none⟩ = some (.int .i64 x) ∧ w'.cell? ⟨W.heap.size, 1, none⟩ = some (.int .i64 y) ∧ w'.cell? ⟨W.heap.size, 2, none⟩ = some (.slice aa l.length ca) ∧ w'.cell? ⟨W.heap.size + 1, 0, none⟩ = some (.int .i64 z) ∧ w'.cell? ⟨W.heap.size + 1, 1, none⟩ = some (.int .i64 u) ∧ w'.cell? ⟨W.heap.size + 1, 2, none⟩ = some (.slice ab m.length cb) ∧ Below W.heap.size W w') w' from fun W' hs =>
    keepB (fun w' : World => w'.cell? ⟨W.heap.size, 0, none⟩ = some (.int .i64 x) ∧ w'.cell? ⟨W.heap.size, 1, none⟩ = some (.int .i64 y) ∧ w'.cell? ⟨W.heap.size, 2, none⟩ = some (.slice aa l.length ca) ∧ w'.cell? ⟨W.heap.size + 1, 0, none⟩ = some (.int .i64 z) ∧ w'.cell? ⟨W.heap.size + 1, 1, none⟩ = some (.int .i64 u) ∧ w'.cell? ⟨W.heap.size + 1, 2, none⟩ = some (.slice ab m.length cb) ∧ Below W.heap.size W w') hk.out (pbsame_eq (a := (x, y, l)) (b := (x, y, l)) (beq_self_eq_true _) W' (HA.out.below hs.2.2.2.2.2.2) (HA.out.below hs.2.2.2.2.2.2) la) hs)
  have hq := Lib.hid (show ∀ W', (fun w' : World => w'.cell? ⟨W.heap.size, 0, none⟩ = some (.int .i64 x) ∧ w'.cell? ⟨W.heap.size, 1, none⟩ = some (.int .i64 y) ∧ w'.cell? ⟨W.heap.size, 2, none⟩ = some (.slice aa l.length ca) ∧ w'.cell? ⟨W.heap.size + 1, 0, none⟩ = some (.int .i64 z) ∧ w'.cell? ⟨W.heap.size + 1, 1, none⟩ = some (.int .i64 u) ∧ w'.cell? ⟨W.heap.size + 1, 2, none⟩ = some (.slice ab m.length cb) ∧ Below W.heap.size W w') W' → Calls Try.prog 11 #[batV x y (.slice aa l.length ca), batV z u (.slice ab m.length cb)] W' fun e w' => e = .returned (.bool r) ∧ (fun w' : World => w'.cell? ⟨W.heap.size, 0, none⟩ = some (.int .i64 x) ∧ w'.cell? ⟨W.heap.size, 1, none⟩ = some (.int .i64 y) ∧ w'.cell? ⟨W.heap.size, 2, none⟩ = some (.slice aa l.length ca) ∧ w'.cell? ⟨W.heap.size + 1, 0, none⟩ = some (.int .i64 z) ∧ w'.cell? ⟨W.heap.size + 1, 1, none⟩ = some (.int .i64 u) ∧ w'.cell? ⟨W.heap.size + 1, 2, none⟩ = some (.slice ab m.length cb) ∧ Below W.heap.size W w') w' from fun W' hs =>
    keepB (fun w' : World => w'.cell? ⟨W.heap.size, 0, none⟩ = some (.int .i64 x) ∧ w'.cell? ⟨W.heap.size, 1, none⟩ = some (.int .i64 y) ∧ w'.cell? ⟨W.heap.size, 2, none⟩ = some (.slice aa l.length ca) ∧ w'.cell? ⟨W.heap.size + 1, 0, none⟩ = some (.int .i64 z) ∧ w'.cell? ⟨W.heap.size + 1, 1, none⟩ = some (.int .i64 u) ∧ w'.cell? ⟨W.heap.size + 1, 2, none⟩ = some (.slice ab m.length cb) ∧ Below W.heap.size W w') hk.out (rbsame_eq (a := (x, y, l)) (b := (z, u, m)) HR.out W' (HA.out.below hs.2.2.2.2.2.2) (HB.out.below hs.2.2.2.2.2.2) la) hs)
  have er := e1 r
  clear HA HB HR G1 e1
  go_wp2_with fail
  go_region_held3 (fun w' : World => w'.cell? ⟨W.heap.size, 0, none⟩ = some (.int .i64 x) ∧ w'.cell? ⟨W.heap.size, 1, none⟩ = some (.int .i64 y) ∧ w'.cell? ⟨W.heap.size, 2, none⟩ = some (.slice aa l.length ca) ∧ w'.cell? ⟨W.heap.size + 1, 0, none⟩ = some (.int .i64 z) ∧ w'.cell? ⟨W.heap.size + 1, 1, none⟩ = some (.int .i64 u) ∧ w'.cell? ⟨W.heap.size + 1, 2, none⟩ = some (.slice ab m.length cb) ∧ Below W.heap.size W w')
    (first | assumption | exact hk.out _ _ hS (Below.drew (Below.refl _ _)) | exact hk.out _ _ (by assumption) ((Below.refl _ _).alloc (Nat.le_refl _) _))
    (first
      | (go_at_call 11; refine (hq.out _ (by assumption)).mono ?_; rintro e w1 ⟨rfl, kS⟩)
      | (go_at_call 12; with_reducible refine (hp.out _ _ ⟨rfl, rfl⟩ _ (by assumption)).mono ?_; rintro e w1 ⟨rfl, kS⟩)
      | (go_at_call 12; with_reducible refine (hp2.out _ (by assumption)).mono ?_; rintro e w1 ⟨rfl, kS⟩))
  all_goals (go_wp2_with fail; go_ret; exact ⟨rfl, (show (fun w' : World => w'.cell? ⟨W.heap.size, 0, none⟩ = some (.int .i64 x) ∧ w'.cell? ⟨W.heap.size, 1, none⟩ = some (.int .i64 y) ∧ w'.cell? ⟨W.heap.size, 2, none⟩ = some (.slice aa l.length ca) ∧ w'.cell? ⟨W.heap.size + 1, 0, none⟩ = some (.int .i64 z) ∧ w'.cell? ⟨W.heap.size + 1, 1, none⟩ = some (.int .i64 u) ∧ w'.cell? ⟨W.heap.size + 1, 2, none⟩ = some (.slice ab m.length cb) ∧ Below W.heap.size W w') _ by assumption).2.2.2.2.2.2⟩)

theorem batchSame_walk {H : Type} (enc : TypeId × Value → H) (W : World) (base : Nat) (v0 : Value) (v1 : Value) (d0 : DataW H) (d1 : DataW H) (p0 : List MemPlace) (p1 : List MemPlace)
    (h0 : DataW.Trod enc Try.prog W 0 (fun _ => true) true 25 v0 d0 p0) (o0 : Value.okWide Try.prog W .any base 25 v0)
    (h1 : DataW.Trod enc Try.prog W 0 (fun _ => true) true 25 v1 d1 p1) (o1 : Value.okWide Try.prog W .any base 25 v1)
    (hsz : (DataW.weightsEach Try.prog [25, 25] [d0, d1]).all (· ≤ reachBytes) = true) :
    Calls Try.prog 4 #[v0, v1] W fun e W' => e = .returned (.bool true) ∧ Below W.heap.size W W' := by
  obtain ⟨a, va, rfl, ha, la, _⟩ := open_bat o0 h0 (sized_at hsz (j := 0) rfl rfl)
  obtain ⟨b, vb, rfl, hb, _, _⟩ := open_bat o1 h1 (sized_at hsz (j := 1) rfl rfl)
  exact batchSame_core a b va vb W ha hb (by omega)
end Go.Proofs.Ytlejffgmaokpnaa
