/- The document's Block. -/
import Derived.Test.YtkkiedmcpibnaaaDoorShaBlock
import Derived.Test.YtkkiedmcpibnaaaDoorShaRPad
import Derived.Test.YtkkiedmcpibnaaaDoorShaRWords
import Derived.Deep.AppendLies
import Derived.Deep.RegionLaw
namespace Sh
theorem head_succ (b : List UInt8) (k : Nat) : (List.range (k + 1)).map (word b) = (List.range k).map (word b) ++ [word b k] := by rw [List.range_succ, List.map_append]; rfl
theorem word_four (b : List UInt8) (k : Nat) (h : 4 * k + 3 < b.length) : ∃ b0 b1 b2 b3 : UInt8, b[4 * k]? = some b0 ∧ b[4 * k + 1]? = some b1 ∧ b[4 * k + 2]? = some b2 ∧ b[4 * k + 3]? = some b3 ∧
    b0.toNat * 16777216 + b1.toNat * 65536 + b2.toNat * 256 + b3.toNat = word b k := by
  refine ⟨b[4 * k], b[4 * k + 1], b[4 * k + 2], b[4 * k + 3], List.getElem?_eq_getElem _, List.getElem?_eq_getElem _, List.getElem?_eq_getElem _, List.getElem?_eq_getElem _, ?_⟩
  have e : (b.drop (4 * k)).take 4 = [b[4 * k], b[4 * k + 1], b[4 * k + 2], b[4 * k + 3]] := by
    rw [List.drop_eq_getElem_cons (show 4 * k < b.length by omega), List.drop_eq_getElem_cons (show 4 * k + 1 < b.length by omega), List.drop_eq_getElem_cons (show 4 * k + 1 + 1 < b.length by omega), List.drop_eq_getElem_cons (show 4 * k + 1 + 1 + 1 < b.length by omega)]
    rfl
  rw [word, e]
  simp [Dg.ofB]
  omega
end Sh
namespace Go.Proofs.YtkkiedmcpibnaaaDoor
open Go.RowKit
attribute [local go_sem] byte_at
theorem info_word1 : (Tryd.prog.info? 62).map (fun i => (i.zero, i.size, i.bytes)) = some (some (.int .u32 0), 1, 4) := by kernel_rfl

/-- A row of words that the call itself appends to. -/
def WRow (w : World) (base : Nat) (v : Value) (l : List Nat) : Prop := w.ownsRow base 62 1 v l.length (l.map uv)
theorem WRow.cell {w : World} {base : Nat} {v : Value} {l : List Nat} (h : WRow w base v l) (h0 : 0 < l.length) : ∃ g cap, v = .slice (some ⟨g, 0, none⟩) l.length cap ∧ base ≤ g ∧ ∀ i (hi : i < l.length), w.cell? ⟨g, i, none⟩ = some (uv l[i]) := by
  rcases h.2 with ⟨_, h8⟩ | ⟨g, cap, cur, rfl, hb, hg, _⟩
  · omega
  refine ⟨g, cap, rfl, hb, fun i hi => ?_⟩
  have := h.cells rfl i (uv l[i]) (by simp [hi])
  have ha : (⟨g, 0, none⟩ : Addr).add i = ⟨g, i, none⟩ := by unfold Addr.add; split <;> simp_all
  rwa [ha] at this
theorem WRow.below {w w' : World} {base : Nat} {v : Value} {l : List Nat} (h : WRow w base v l) (hb : Below w.heap.size w w') : WRow w' base v l := by
  refine ⟨h.1, ?_⟩
  rcases h.2 with h0 | ⟨g, cap, cur, rfl, hb', hg, r⟩
  · exact .inl h0
  · exact .inr ⟨g, cap, cur, rfl, hb', by rw [hb.block g (Array.getElem?_eq_some_iff.1 hg).1]; exact hg, r⟩
theorem rnext_eq (b : List UInt8) (m x16 x15 x7 x2 : Nat) (h16 : (Sh.ext m (Sh.head b)).getD m 0 = x16) (h15 : (Sh.ext m (Sh.head b)).getD (m + 1) 0 = x15) (h7 : (Sh.ext m (Sh.head b)).getD (m + 9) 0 = x7)
    (h2 : (Sh.ext m (Sh.head b)).getD (m + 14) 0 = x2) (l15 : x15 < 4294967296) (l2 : x2 < 4294967296) :
    ((Sh.next (Sh.ext m (Sh.head b)) : Nat) : Int) = ((x16 : Int) + (Sh.sm0 x15 : Int) + (x7 : Int) + (Sh.sm1 x2 : Int)) % 4294967296 := by
  have h := next_eq b m x16 x15 x7 x2 h16 h15 h7 h2 l15 l2
  rw [sm0_bits _ l15, sm1_bits _ l2] at h
  exact h
theorem rtt_bits (se sf sg sk kv wv : Nat) (le : se < 4294967296) (lf : sf < 4294967296) (lg : sg < 4294967296) :
    (((sk : Int) + bits .xor .u32 (bits .xor .u32 (Sh.rot se 6 : Int) (Sh.rot se 11 : Int)) (Sh.rot se 25 : Int) +
      bits .xor .u32 (bits .and .u32 (se : Int) (sf : Int)) (bits .and .u32 (4294967295 - (se : Int)) (sg : Int)) + (kv : Int)) % 4294967296 + (wv : Int)) % 4294967296 = ((Sh.tt se sf sg sk kv wv : Nat) : Int) := by
  rw [← tt_bits se sf sg sk kv wv le lf lg, not_bits se le, show (4294967295 : Int) - (se : Int) = ((4294967295 - se : Nat) : Int) by omega]
theorem rturn7 (x : Nat) (hx : x < 4294967296) (w : World) : Calls Tryd.prog 46 #[uv x, .int .i64 7] w fun e w' => e = .returned (uv (Sh.rot x 7)) ∧ w' = w := rturn_any x 7 hx (by decide) (by decide) w
theorem rturn18 (x : Nat) (hx : x < 4294967296) (w : World) : Calls Tryd.prog 46 #[uv x, .int .i64 18] w fun e w' => e = .returned (uv (Sh.rot x 18)) ∧ w' = w := rturn_any x 18 hx (by decide) (by decide) w
theorem rturn17 (x : Nat) (hx : x < 4294967296) (w : World) : Calls Tryd.prog 46 #[uv x, .int .i64 17] w fun e w' => e = .returned (uv (Sh.rot x 17)) ∧ w' = w := rturn_any x 17 hx (by decide) (by decide) w
theorem rturn19 (x : Nat) (hx : x < 4294967296) (w : World) : Calls Tryd.prog 46 #[uv x, .int .i64 19] w fun e w' => e = .returned (uv (Sh.rot x 19)) ∧ w' = w := rturn_any x 19 hx (by decide) (by decide) w
theorem rturn6 (x : Nat) (hx : x < 4294967296) (w : World) : Calls Tryd.prog 46 #[uv x, .int .i64 6] w fun e w' => e = .returned (uv (Sh.rot x 6)) ∧ w' = w := rturn_any x 6 hx (by decide) (by decide) w
theorem rturn11 (x : Nat) (hx : x < 4294967296) (w : World) : Calls Tryd.prog 46 #[uv x, .int .i64 11] w fun e w' => e = .returned (uv (Sh.rot x 11)) ∧ w' = w := rturn_any x 11 hx (by decide) (by decide) w
theorem rturn25 (x : Nat) (hx : x < 4294967296) (w : World) : Calls Tryd.prog 46 #[uv x, .int .i64 25] w fun e w' => e = .returned (uv (Sh.rot x 25)) ∧ w' = w := rturn_any x 25 hx (by decide) (by decide) w
theorem rturn2 (x : Nat) (hx : x < 4294967296) (w : World) : Calls Tryd.prog 46 #[uv x, .int .i64 2] w fun e w' => e = .returned (uv (Sh.rot x 2)) ∧ w' = w := rturn_any x 2 hx (by decide) (by decide) w
theorem rturn13 (x : Nat) (hx : x < 4294967296) (w : World) : Calls Tryd.prog 46 #[uv x, .int .i64 13] w fun e w' => e = .returned (uv (Sh.rot x 13)) ∧ w' = w := rturn_any x 13 hx (by decide) (by decide) w
theorem rturn22 (x : Nat) (hx : x < 4294967296) (w : World) : Calls Tryd.prog 46 #[uv x, .int .i64 22] w fun e w' => e = .returned (uv (Sh.rot x 22)) ∧ w' = w := rturn_any x 22 hx (by decide) (by decide) w
theorem rover3 (x : Nat) (hx : x < 4294967296) (w : World) : Calls Tryd.prog 47 #[uv x, .int .i64 3] w fun e w' => e = .returned (.int .u32 ((x : Int) / 8)) ∧ w' = w := by
  have h := rover_any x 3 hx (by decide) w
  rw [show uv (x / 2 ^ 3) = Value.int .u32 ((x : Int) / 8) by simp [uv]] at h
  exact h
theorem rover10 (x : Nat) (hx : x < 4294967296) (w : World) : Calls Tryd.prog 47 #[uv x, .int .i64 10] w fun e w' => e = .returned (.int .u32 ((x : Int) / 1024)) ∧ w' = w := by
  have h := rover_any x 10 hx (by decide) w
  rw [show uv (x / 2 ^ 10) = Value.int .u32 ((x : Int) / 1024) by simp [uv]] at h
  exact h
/-- What the walk keeps: the state that came in, the place of the result. -/
structure Kept (w wr : World) (h : List Nat) : Prop where
  box : ARow wr w.heap.size 63 h
  res : ARow wr (w.heap.size + 1) 63 (List.replicate 8 0)
  bel : Below w.heap.size w wr
theorem Kept.size {w wr : World} {h : List Nat} (k : Kept w wr h) : w.heap.size + 2 ≤ wr.heap.size := by have := k.res.lt; omega
theorem Kept.kept {w wr w' : World} {h : List Nat} (k : Kept w wr h) (hb : Below wr.heap.size wr w') : Kept w w' h := ⟨k.box.kept hb, k.res.kept hb, grow_trans k.bel hb⟩
theorem Kept.alloc {w wr : World} {h : List Nat} (k : Kept w wr h) (o : Obj) : Kept w (wr.alloc o) h := k.kept ((Below.refl _ _).alloc (Nat.le_refl _) o)
theorem Kept.drew {w wr : World} {h : List Nat} (k : Kept w wr h) : Kept w wr.drew h := ⟨k.box, k.res, k.bel.drew⟩
theorem Kept.draws {w wr : World} {h : List Nat} (k : Kept w wr h) (n : Nat) : Kept w (wr.drewN n) h := ⟨k.box.draw n, k.res.draw n, below_drewN k.bel n⟩
theorem Kept.grown {w wr w' : World} {h : List Nat} {row : Option Nat} (k : Kept w wr h) (hg : wr.grownBy w' row) (hr : ∀ j, row = some j → w.heap.size + 2 ≤ j) : Kept w w' h := by
  have h1 := k.box.lt
  have h2 := k.res.lt
  refine ⟨?_, ?_, k.bel.grown hg (by have := k.size; omega) (fun j hj => by have := hr j hj; omega)⟩
  · exact (hg.block _ h1 (fun e => by have := hr _ e.symm; omega)).trans k.box
  · exact (hg.block _ h2 (fun e => by have := hr _ e.symm; omega)).trans k.res

set_option maxHeartbeats 1000000 in
set_option maxRecDepth 100000 in
theorem rblock8 (a b c d e f g k : Nat) (hok : Sh.Ok (a, b, c, d, e, f, g, k)) (bl : List UInt8) (hb : bl.length = 64) (w : World) :
    Calls Tryd.prog 37 #[.agg #[uv a, uv b, uv c, uv d, uv e, uv f, uv g, uv k], tx bl] w fun ee w' => ee = .returned (.tuple #[.agg ((Sh.block [a, b, c, d, e, f, g, k] bl).map uv).toArray, .int .i64 0]) ∧ Below w.heap.size w w' := by
  obtain ⟨i0, hi, hz0, hz1, hz2⟩ := info_parts info_word1
  have t1 : ((bl.length : Int) != 64) = false := by rw [hb]; decide
  have hbox : ARow (w.alloc (.cells #[uv a, uv b, uv c, uv d, uv e, uv f, uv g, uv k] 63)) w.heap.size 63 [a, b, c, d, e, f, g, k] := ARow.new w 63 [a, b, c, d, e, f, g, k]
  have hbox2 := hbox.alloc (.cells #[.int .u32 0, .int .u32 0, .int .u32 0, .int .u32 0, .int .u32 0, .int .u32 0, .int .u32 0, .int .u32 0] 63)
  have hres : ARow ((w.alloc (.cells #[uv a, uv b, uv c, uv d, uv e, uv f, uv g, uv k] 63)).alloc (.cells #[.int .u32 0, .int .u32 0, .int .u32 0, .int .u32 0, .int .u32 0, .int .u32 0, .int .u32 0, .int .u32 0] 63)) (w.heap.size + 1) 63 (List.replicate 8 0) := by
    have := ARow.new (w.alloc (.cells #[uv a, uv b, uv c, uv d, uv e, uv f, uv g, uv k] 63)) 63 (List.replicate 8 0)
    simp only [World.size_alloc] at this
    exact this
  have hg0 : Below w.heap.size w ((w.alloc (.cells #[uv a, uv b, uv c, uv d, uv e, uv f, uv g, uv k] 63)).alloc (.cells #[.int .u32 0, .int .u32 0, .int .u32 0, .int .u32 0, .int .u32 0, .int .u32 0, .int .u32 0, .int .u32 0] 63)) := ((Below.refl _ _).alloc (Nat.le_refl _) _).alloc (by simp) _
  have HK := Lib.hid (Kept.mk hbox2 hres hg0)
  have HBL := Lib.hid hb
  clear hbox hbox2 hres hg0 hb
  go_enter Tryd.func37, Tryd.ntmps37
  go_wp2_with fail
  clear t1
  go_loopw [6, 7] (fun wv i wr => ∃ m : Nat, i = .int .i64 m ∧ m ≤ 16 ∧ WRow wr (w.heap.size + 2) wv ((List.range m).map (Sh.word bl)) ∧ Kept w wr [a, b, c, d, e, f, g, k]) (fun _ i _ => 16 - (intOf i).toNat)
  case atStart => exact ⟨0, rfl, by omega, World.ownsRow_nil _ _ _ _, HK.out⟩
  case round =>
    obtain ⟨m, rfl, hm, hrow, hkp⟩ := hrel
    have hbl := HBL.out
    have hsz := hkp.size
    by_cases hlt : m < 16
    · obtain ⟨b0, b1, b2, b3, q0, q1, q2, q3, qq⟩ := Sh.word_four bl m (by omega)
      have l0 : 4 * m < bl.length := by omega
      have l1 : 4 * m + 1 < bl.length := by omega
      have l2 : 4 * m + 2 < bl.length := by omega
      have l3 : 4 * m + 3 < bl.length := by omega
      obtain ⟨v, hv⟩ : ∃ v, 4 * m = v := ⟨_, rfl⟩
      have em : 4 * (m : Int) = (v : Int) := by omega
      have hvl : v ≤ 60 := by omega
      rw [hv] at q0 q1 q2 q3 l0 l1 l2 l3
      clear hv
      rw [List.getElem?_eq_getElem l0, Option.some.injEq] at q0
      rw [List.getElem?_eq_getElem l1, Option.some.injEq] at q1
      rw [List.getElem?_eq_getElem l2, Option.some.injEq] at q2
      rw [List.getElem?_eq_getElem l3, Option.some.injEq] at q3
      have z0 := b0.toNat_lt
      have z1 := b1.toNat_lt
      have z2 := b2.toNat_lt
      have z3 := b3.toNat_lt
      have u0 : (v : Int) < (bl.length : Int) := by omega
      have u1 : (v : Int) + 1 < (bl.length : Int) := by omega
      have u2 : (v : Int) + 2 < (bl.length : Int) := by omega
      have u3 : (v : Int) + 3 < (bl.length : Int) := by omega
      have a0 : (0 : Int) ≤ (v : Int) := by omega
      have a1 : (0 : Int) ≤ (v : Int) + 1 := by omega
      have a2 : (0 : Int) ≤ (v : Int) + 2 := by omega
      have a3 : (0 : Int) ≤ (v : Int) + 3 := by omega
      have n1 : ((v : Int) + 1).toNat = v + 1 := by omega
      have n2 : ((v : Int) + 2).toNat = v + 2 := by omega
      have n3 : ((v : Int) + 3).toNat = v + 3 := by omega
      have ws0 : IntKind.i64.wrap (v : Int) = (v : Int) := IntWalk.i64_in _ ⟨by omega, by omega⟩
      have ws1 : IntKind.i64.wrap ((v : Int) + 1) = (v : Int) + 1 := IntWalk.i64_in _ ⟨by omega, by omega⟩
      have ws2 : IntKind.i64.wrap ((v : Int) + 2) = (v : Int) + 2 := IntWalk.i64_in _ ⟨by omega, by omega⟩
      have ws3 : IntKind.i64.wrap ((v : Int) + 3) = (v : Int) + 3 := IntWalk.i64_in _ ⟨by omega, by omega⟩
      have k0 : IntKind.u32.wrap (b0.toNat : Int) = (b0.toNat : Int) := by rw [IntKind.wrap_u32']; omega
      have k1 : IntKind.u32.wrap (b1.toNat : Int) = (b1.toNat : Int) := by rw [IntKind.wrap_u32']; omega
      have k2 : IntKind.u32.wrap (b2.toNat : Int) = (b2.toNat : Int) := by rw [IntKind.wrap_u32']; omega
      have k3 : IntKind.u32.wrap (b3.toNat : Int) = (b3.toNat : Int) := by rw [IntKind.wrap_u32']; omega
      have m0 : IntKind.u32.wrap ((b0.toNat : Int) * 16777216) = (b0.toNat : Int) * 16777216 := by rw [IntKind.wrap_u32']; omega
      have m1 : IntKind.u32.wrap ((b1.toNat : Int) * 65536) = (b1.toNat : Int) * 65536 := by rw [IntKind.wrap_u32']; omega
      have m2 : IntKind.u32.wrap ((b2.toNat : Int) * 256) = (b2.toNat : Int) * 256 := by rw [IntKind.wrap_u32']; omega
      have s1 : IntKind.u32.wrap ((b0.toNat : Int) * 16777216 + (b1.toNat : Int) * 65536) = (b0.toNat : Int) * 16777216 + (b1.toNat : Int) * 65536 := by rw [IntKind.wrap_u32']; omega
      have s2 : IntKind.u32.wrap ((b0.toNat : Int) * 16777216 + (b1.toNat : Int) * 65536 + (b2.toNat : Int) * 256) = (b0.toNat : Int) * 16777216 + (b1.toNat : Int) * 65536 + (b2.toNat : Int) * 256 := by rw [IntKind.wrap_u32']; omega
      have s3 : IntKind.u32.wrap ((b0.toNat : Int) * 16777216 + (b1.toNat : Int) * 65536 + (b2.toNat : Int) * 256 + (b3.toNat : Int)) = (b0.toNat : Int) * 16777216 + (b1.toNat : Int) * 65536 + (b2.toNat : Int) * 256 + (b3.toNat : Int) := by rw [IntKind.wrap_u32']; omega
      obtain ⟨x, hx⟩ : ∃ x, Sh.word bl m = x := ⟨_, rfl⟩
      have hsu := Sh.head_succ bl m
      rw [hx] at qq hsu
      have QQ := Lib.hid qq
      have HSU := Lib.hid hsu
      have HR := Lib.hid (show WRow wr.drew (w.heap.size + 2) u6 ((List.range m).map (Sh.word bl)) from hrow.below (Below.drew (Below.refl _ _)))
      have HKP := Lib.hid hkp
      have hml : ((List.range m).map (Sh.word bl)).length = m := by simp
      have HRA := Lib.hid (show ((wr.alloc (.cells #[uv x] 62)).drew).ownsRow (w.heap.size + 2) 62 1 u6 m (((List.range m).map (Sh.word bl)).map uv) by have := HR.out.below (show Below wr.drew.heap.size wr.drew (wr.alloc (.cells #[uv x] 62)).drew from ((Below.refl _ _).alloc (Nat.le_refl _) _)); rw [WRow, hml] at this; exact this)
      have HNW := Lib.hid (show ∀ j u, [uv x][j]? = some u → ((wr.alloc (.cells #[uv x] 62)).drew).cell? ((⟨wr.heap.size, 0, none⟩ : Addr).add j) = some u from new_cell wr _ rfl (uv x) _)
      have HSA := Lib.hid (show w.heap.size + 2 ≤ ((wr.alloc (.cells #[uv x] 62)).drew).heap.size by show _ ≤ (wr.alloc _).heap.size; rw [World.size_alloc]; omega)
      clear qq hsu hrow hkp hx hbl
      go_wp2_with fail
      have EV := Lib.hid (show ((b0.toNat : Int) * 16777216 + (b1.toNat : Int) * 65536 + (b2.toNat : Int) * 256 + (b3.toNat : Int)) = (x : Int) by have := QQ.out; omega)
      refine wp_region_any (by kernel_rfl) ?_
      change wpAny _ _ _ _ _ _ _ (World.drew _)
      refine wpAny_take (i := 0) (v := ?_) rfl (by kernel_rfl) (by kernel_rfl) (by kernel_rfl) (fun _ _ _ h => h) (Or.inl ⟨by rfl, ?_⟩) ?_
      rotate_left
      focus (intro w; go_simp; try (with_reducible rfl))
      refine wpAny_take (i := 1) (v := ?_) rfl (by kernel_rfl) (by kernel_rfl) (by kernel_rfl) (fun _ _ _ h => h) (Or.inl ⟨by rfl, ?_⟩) ?_
      rotate_left
      focus (intro w; go_simp; try (with_reducible rfl))
      refine wpAny_take (i := 2) (v := ?_) rfl (by kernel_rfl) (by kernel_rfl) (by kernel_rfl) (fun _ _ _ h => h) (Or.inl ⟨by rfl, ?_⟩) ?_
      rotate_left
      focus (intro w; go_simp; try (with_reducible rfl))
      refine wpAny_take (i := 3) (v := ?_) rfl (by kernel_rfl) (by kernel_rfl) (by kernel_rfl) (fun _ _ _ h => h) (Or.inl ⟨by rfl, ?_⟩) ?_
      rotate_left
      focus (intro w; go_simp; try (with_reducible rfl))
      refine wpAny_take (i := 4) (v := ?_) rfl (by kernel_rfl) (by kernel_rfl) (by kernel_rfl) (fun _ _ _ h => h) (Or.inl ⟨by rfl, ?_⟩) ?_
      rotate_left
      focus (intro w; go_simp; try (with_reducible rfl))
      refine wpAny_take (i := 5) (v := ?_) rfl (by kernel_rfl) (by kernel_rfl) (by kernel_rfl) (fun _ _ _ h => h) (Or.inl ⟨by rfl, ?_⟩) ?_
      rotate_left
      focus (intro w; go_simp; try (with_reducible rfl))
      refine wpAny_take (i := 6) (v := ?_) rfl (by kernel_rfl) (by kernel_rfl) (by kernel_rfl) (fun _ _ _ h => h) (Or.inl ⟨by rfl, ?_⟩) ?_
      rotate_left
      focus (intro w; go_simp; try (with_reducible rfl))
      refine wpAny_take (i := 7) (v := ?_) rfl (by kernel_rfl) (by kernel_rfl) (by kernel_rfl) (fun _ _ _ h => h) (Or.inl ⟨by rfl, ?_⟩) ?_
      rotate_left
      focus (intro w; go_simp; try (with_reducible rfl))
      refine wpAny_take (i := 8) (v := ?_) rfl (by kernel_rfl) (by kernel_rfl) (by kernel_rfl) (fun _ _ _ h => h) (Or.inl ⟨by rfl, ?_⟩) ?_
      rotate_left
      focus (intro w; go_simp; try (with_reducible rfl))
      refine wpAny_take (i := 9) (v := ?_) rfl (by kernel_rfl) (by kernel_rfl) (by kernel_rfl) (fun _ _ _ h => h) (Or.inl ⟨by rfl, ?_⟩) ?_
      rotate_left
      focus (intro w; go_simp; try (with_reducible rfl))
      refine wpAny_take (i := 10) (v := ?_) rfl (by kernel_rfl) (by kernel_rfl) (by kernel_rfl) (fun _ _ _ h => h) (Or.inl ⟨by rfl, ?_⟩) ?_
      rotate_left
      focus (intro w; go_simp; try (with_reducible rfl))
      refine wpAny_take (i := 11) (v := ?_) rfl (by kernel_rfl) (by kernel_rfl) (by kernel_rfl) (fun _ _ _ h => h) (Or.inl ⟨by rfl, ?_⟩) ?_
      rotate_left
      focus (intro w; go_simp; try (with_reducible rfl))
      refine wpAny_take (i := 12) (v := ?_) rfl (by kernel_rfl) (by kernel_rfl) (by kernel_rfl) (fun _ _ _ h => h) (Or.inl ⟨by rfl, ?_⟩) ?_
      rotate_left
      focus (intro w; go_simp; try (with_reducible rfl))
      refine wpAny_take (i := 13) (v := ?_) rfl (by kernel_rfl) (by kernel_rfl) (by kernel_rfl) (fun _ _ _ h => h) (Or.inl ⟨by rfl, ?_⟩) ?_
      rotate_left
      focus (intro w; go_simp; try (with_reducible rfl))
      refine wpAny_take (i := 14) (v := ?_) rfl (by kernel_rfl) (by kernel_rfl) (by kernel_rfl) (fun _ _ _ h => h) (Or.inl ⟨by rfl, ?_⟩) ?_
      rotate_left
      focus (intro w; go_simp; try (with_reducible rfl))
      refine wpAny_take (i := 15) (v := ?_) rfl (by kernel_rfl) (by kernel_rfl) (by kernel_rfl) (fun _ _ _ h => h) (Or.inl ⟨by rfl, ?_⟩) ?_
      rotate_left
      focus (intro w; go_simp; try (with_reducible rfl))
      refine wpAny_take (i := 16) (v := ?_) rfl (by kernel_rfl) (by kernel_rfl) (by kernel_rfl) (fun _ _ _ h => h) (Or.inl ⟨by rfl, ?_⟩) ?_
      rotate_left
      focus (intro w; go_simp; try (with_reducible rfl))
      refine wpAny_take (i := 17) (v := ?_) rfl (by kernel_rfl) (by kernel_rfl) (by kernel_rfl) (fun _ _ _ h => h) (Or.inl ⟨by rfl, ?_⟩) ?_
      rotate_left
      focus (intro w; go_simp; try (with_reducible rfl))
      refine wpAny_take (i := 18) (v := ?_) rfl (by kernel_rfl) (by kernel_rfl) (by kernel_rfl) (fun _ _ _ h => h) (Or.inl ⟨by rfl, ?_⟩) ?_
      rotate_left
      focus (intro w; go_simp; try (with_reducible rfl))
      refine wpAny_take (i := 19) (v := ?_) rfl (by kernel_rfl) (by kernel_rfl) (by kernel_rfl) (fun _ _ _ h => h) (Or.inl ⟨by rfl, ?_⟩) ?_
      rotate_left
      focus (intro w; go_simp; try (with_reducible rfl))
      refine wpAny_take (i := 20) (v := ?_) rfl (by kernel_rfl) (by kernel_rfl) (by kernel_rfl) (fun _ _ _ h => h) (Or.inl ⟨by rfl, ?_⟩) ?_
      rotate_left
      focus (intro w; go_simp; try (with_reducible rfl))
      refine wpAny_take (i := 21) (v := ?_) rfl (by kernel_rfl) (by kernel_rfl) (by kernel_rfl) (fun _ _ _ h => h) (Or.inl ⟨by rfl, ?_⟩) ?_
      rotate_left
      focus (intro w; go_simp; try (with_reducible rfl))
      refine wpAny_take (i := 22) (v := ?_) rfl (by kernel_rfl) (by kernel_rfl) (by kernel_rfl) (fun _ _ _ h => h) (Or.inl ⟨by rfl, ?_⟩) ?_
      rotate_left
      focus (intro w; go_simp; try (with_reducible rfl))
      refine wpAny_take (i := 23) (v := ?_) rfl (by kernel_rfl) (by kernel_rfl) (by kernel_rfl) (fun _ _ _ h => h) (Or.inl ⟨by rfl, ?_⟩) ?_
      rotate_left
      focus (intro w; go_simp; try (with_reducible rfl))
      refine wpAny_take (i := 24) (v := ?_) rfl (by kernel_rfl) (by kernel_rfl) (by kernel_rfl) (fun _ _ _ h => h) (Or.inl ⟨by rfl, ?_⟩) ?_
      rotate_left
      focus (intro w; go_simp; try (with_reducible rfl))
      refine wpAny_take (i := 25) (v := ?_) rfl (by kernel_rfl) (by kernel_rfl) (by kernel_rfl) (fun _ _ _ h => h) (Or.inl ⟨by rfl, ?_⟩) ?_
      rotate_left
      focus (intro w; go_simp; try (with_reducible rfl))
      refine wpAny_take (i := 26) (v := ?_) rfl (by kernel_rfl) (by kernel_rfl) (by kernel_rfl) (fun _ _ _ h => h) (Or.inl ⟨by rfl, ?_⟩) ?_
      rotate_left
      focus (intro w; go_simp; try (with_reducible rfl))
      refine wpAny_take (i := 27) (v := ?_) rfl (by kernel_rfl) (by kernel_rfl) (by kernel_rfl) (fun _ _ _ h => h) (Or.inl ⟨by rfl, ?_⟩) ?_
      rotate_left
      focus (intro w; go_simp; try (with_reducible rfl))
      refine wpAny_take (i := 28) (v := ?_) rfl (by kernel_rfl) (by kernel_rfl) (by kernel_rfl) (fun _ _ _ h => h) (Or.inl ⟨by rfl, ?_⟩) ?_
      rotate_left
      focus (intro w; go_simp; try (with_reducible rfl))
      refine wpAny_take (i := 29) (v := ?_) rfl (by kernel_rfl) (by kernel_rfl) (by kernel_rfl) (fun _ _ _ h => h) (Or.inl ⟨by rfl, ?_⟩) ?_
      rotate_left
      focus (intro w; go_simp; try (with_reducible rfl))
      rw [EV.out]
      refine wpAny_ready (rs := [30]) (by kernel_rfl) (by simp) ?_
      refine AllReady.cons rfl (fun K hK => ?_) AllReady.nil
      go_simp
      refine hK _ _ ?_
      clear hK K
      refine wpAny_ready (rs := [31]) (by kernel_rfl) (by simp) ?_
      refine AllReady.cons rfl (fun K hK => ?_) AllReady.nil
      refine step_append_lies _ (by rfl) (.tmp 36) (.tmp 66) 78 (by rfl) (w.heap.size + 2) 62 i0 (.int .u32 0) 1 4 Tryd.underlying78 hi hz0 hz1 hz2 rfl (by decide) u6 m ((((List.range m).map (Sh.word bl)).map uv)) (by rfl) HRA.out ⟨wr.heap.size, 0, none⟩ 1 1 [uv x] (by rfl) (by rfl) HNW.out (by intro u hu; simp at hu; subst hu; rfl) (by decide) (by unfold maxLen; omega) (by omega) HSA.out _ (by rfl) ?_
      intro v4 c4 w4 hown hg _ _
      try go_simp
      refine hK _ _ ?_
      clear hK K
      refine wpAny_take (i := 32) (v := ?_) rfl (by kernel_rfl) (by kernel_rfl) (by kernel_rfl) (fun _ _ _ h => h) (Or.inl ⟨by rfl, ?_⟩) ?_
      rotate_left
      focus (intro w; go_simp; try (with_reducible rfl))
      refine wpAny_done (by kernel_rfl) ?_ _
      have hkp4 := (HKP.out.alloc (.cells #[uv x] 62)).drew.grown hg (fun j hj => (HRA.out.lt j hj).1)
      have hr4 : WRow w4 (w.heap.size + 2) (.slice (some ⟨v4, 0, none⟩) (m + 1) c4) ((List.range (m + 1)).map (Sh.word bl)) := by
        rw [HSU.out]
        unfold WRow
        rw [List.length_append, List.map_append, hml]
        exact hown
      have HKP4 := Lib.hid hkp4
      have HR4 := Lib.hid hr4
      clear hkp4 hr4 hown hg q0 q1 q2 q3 k0 k1 k2 k3 m0 m1 m2 s1 s2 s3 ws0 ws1 ws2 ws3 u0 u1 u2 u3 a0 a1 a2 a3 n1 n2 n3 z0 z1 z2 z3
      go_wp2
      go_roundw
      case rel => exact ⟨m + 1, by go_num, hlt, HR4.out, HKP4.out⟩
      case measure => simp [intOf]; omega
    · obtain rfl : m = 16 := by omega
      have HR := Lib.hid (show WRow wr (w.heap.size + 2) u6 (Sh.ext 0 (Sh.head bl)) from hrow)
      have HKP := Lib.hid hkp
      clear hrow hkp hbl hsz
      go_wp2_with fail
      simp only [Int.cast_ofNat_Int]
      go_loopw [6, 8] (fun wv i wr => ∃ m : Nat, i = .int .i64 (m + 16 : Nat) ∧ m ≤ 48 ∧ WRow wr (w.heap.size + 2) wv (Sh.ext m (Sh.head bl)) ∧ Kept w wr [a, b, c, d, e, f, g, k]) (fun _ i _ => 64 - (intOf i).toNat)
      case atStart => exact ⟨0, rfl, by omega, HR.out, HKP.out⟩
      case round =>
        obtain ⟨m, rfl, hm, hrow, hkp⟩ := hrel
        have hsz := hkp.size
        have hel : (Sh.ext m (Sh.head bl)).length = m + 16 := by rw [Sh.ext_len, Sh.head_len]; omega
        by_cases hlt : m < 48
        · obtain ⟨gb, cap, rfl, hgb, hcl⟩ := hrow.cell (by omega)
          have hE := Sh.getD_lt _ (Sh.ext_lt m _ (Sh.head_lt bl))
          have c15 := hcl (m + 1) (by omega)
          have c2 := hcl (m + 14) (by omega)
          have c16 := hcl m (by omega)
          have c7 := hcl (m + 9) (by omega)
          obtain ⟨x15, h15⟩ : ∃ x, (Sh.ext m (Sh.head bl)).getD (m + 1) 0 = x := ⟨_, rfl⟩
          obtain ⟨x2, h2⟩ : ∃ x, (Sh.ext m (Sh.head bl)).getD (m + 14) 0 = x := ⟨_, rfl⟩
          obtain ⟨x16, h16'⟩ : ∃ x, (Sh.ext m (Sh.head bl)).getD m 0 = x := ⟨_, rfl⟩
          obtain ⟨x7, h7⟩ : ∃ x, (Sh.ext m (Sh.head bl)).getD (m + 9) 0 = x := ⟨_, rfl⟩
          have l15 : x15 < 4294967296 := by rw [← h15]; exact hE _
          have l2 : x2 < 4294967296 := by rw [← h2]; exact hE _
          rw [show (Sh.ext m (Sh.head bl))[m + 1]'(by omega) = x15 by rw [← h15, List.getD, List.getElem?_eq_getElem (by omega)]; rfl] at c15
          rw [show (Sh.ext m (Sh.head bl))[m + 14]'(by omega) = x2 by rw [← h2, List.getD, List.getElem?_eq_getElem (by omega)]; rfl] at c2
          rw [show (Sh.ext m (Sh.head bl))[m]'(by omega) = x16 by rw [← h16', List.getD, List.getElem?_eq_getElem (by omega)]; rfl] at c16
          rw [show (Sh.ext m (Sh.head bl))[m + 9]'(by omega) = x7 by rw [← h7, List.getD, List.getElem?_eq_getElem (by omega)]; rfl] at c7
          have HNX := Lib.hid (rnext_eq bl m x16 x15 x7 x2 h16' h15 h7 h2 l15 l2)
          have HES := Lib.hid (Sh.ext_succ m (Sh.head bl))
          obtain ⟨x, hx⟩ : ∃ x, Sh.next (Sh.ext m (Sh.head bl)) = x := ⟨_, rfl⟩
          rw [hx] at HNX HES
          have HRW := Lib.hid hrow
          have HKP2 := Lib.hid hkp
          have HEL := Lib.hid hel
          simp only [hel]
          clear h15 h2 h16' h7 hE hcl hrow hkp hx hel
          have f3 : IntKind.i64.wrap (m : Int) = (m : Int) := IntWalk.i64_in _ ⟨by omega, by omega⟩
          have f4 : IntKind.i64.wrap ((m : Int) + 16 - 7) = ((m + 9 : Nat) : Int) := by rw [IntWalk.i64_in _ ⟨by omega, by omega⟩]; omega
          have q7 : (0 : Int) ≤ (m : Int) := by omega
          have q8 : (m : Int) < (m : Int) + 16 := by omega
          have q10 : (0 : Int) ≤ (m : Int) + 9 := by omega
          have q11 : (m : Int) + 9 < (m : Int) + 16 := by omega
          have q12 : ((m : Int) + 9).toNat = m + 9 := by omega
          have e1 : IntKind.i64.wrap (((m + 16 : Nat) : Int) - 15) = ((m + 1 : Nat) : Int) := by rw [IntWalk.i64_in _ ⟨by omega, by omega⟩]; omega
          have e2 : IntKind.i64.wrap (((m + 16 : Nat) : Int) - 2) = ((m + 14 : Nat) : Int) := by rw [IntWalk.i64_in _ ⟨by omega, by omega⟩]; omega
          have e3 : IntKind.i64.wrap (((m + 16 : Nat) : Int) - 16) = ((m : Nat) : Int) := by rw [IntWalk.i64_in _ ⟨by omega, by omega⟩]; omega
          have e4 : IntKind.i64.wrap (((m + 16 : Nat) : Int) - 7) = ((m + 9 : Nat) : Int) := by rw [IntWalk.i64_in _ ⟨by omega, by omega⟩]; omega
          go_wp2_with fail
          refine (rturn7 x15 l15 _).mono ?_
          rintro ee v1 ⟨rfl, rfl⟩
          go_wp2_with fail
          refine (rturn18 x15 l15 _).mono ?_
          rintro ee v1 ⟨rfl, rfl⟩
          go_wp2_with fail
          refine (rover3 x15 l15 _).mono ?_
          rintro ee v1 ⟨rfl, rfl⟩
          go_wp2_with fail
          refine (rturn17 x2 l2 _).mono ?_
          rintro ee v1 ⟨rfl, rfl⟩
          go_wp2_with fail
          refine (rturn19 x2 l2 _).mono ?_
          rintro ee v1 ⟨rfl, rfl⟩
          go_wp2_with fail
          refine (rover10 x2 l2 _).mono ?_
          rintro ee v1 ⟨rfl, rfl⟩
          have SM0 := Lib.hid (sm0_bits x15 l15)
          have SM1 := Lib.hid (sm1_bits x2 l2)
          go_wp2_with fail
          rw [SM0.out, SM1.out]
          generalize Sh.sm0 x15 = P0 at *
          generalize Sh.sm1 x2 = P1 at *
          have d16 : v1.drew.cell? ⟨gb, m, none⟩ = some (uv x16) := c16
          have d7 : v1.drew.cell? ⟨gb, m + 9, none⟩ = some (uv x7) := c7
          clear c15 c2 c16 c7 SM0 SM1
          have HEQ := Lib.hid (show uv x = Value.int .u32 (IntKind.u32.wrap (IntKind.u32.wrap (IntKind.u32.wrap ((x16 : Int) + (P0 : Int)) + (x7 : Int)) + (P1 : Int))) by rw [uv, HNX.out, IntKind.wrap_u32', IntKind.wrap_u32', IntKind.wrap_u32']; congr 1; omega)
          have HRA := Lib.hid (show ((v1.alloc (.cells #[.int .u32 (IntKind.u32.wrap (IntKind.u32.wrap (IntKind.u32.wrap ((x16 : Int) + (P0 : Int)) + (x7 : Int)) + (P1 : Int)))] 62)).drew).ownsRow (w.heap.size + 2) 62 1 (.slice (some ⟨gb, 0, none⟩) (m + 16) cap) (m + 16) ((Sh.ext m (Sh.head bl)).map uv) by have := HRW.out.below (show Below v1.heap.size v1 ((v1.alloc (.cells #[.int .u32 (IntKind.u32.wrap (IntKind.u32.wrap (IntKind.u32.wrap ((x16 : Int) + (P0 : Int)) + (x7 : Int)) + (P1 : Int)))] 62)).drew) from ((Below.refl _ _).alloc (Nat.le_refl _) _).drew); rw [WRow, HEL.out] at this; exact this)
          have HNW := Lib.hid (show ∀ j u, [Value.int .u32 (IntKind.u32.wrap (IntKind.u32.wrap (IntKind.u32.wrap ((x16 : Int) + (P0 : Int)) + (x7 : Int)) + (P1 : Int)))][j]? = some u → ((v1.alloc (.cells #[.int .u32 (IntKind.u32.wrap (IntKind.u32.wrap (IntKind.u32.wrap ((x16 : Int) + (P0 : Int)) + (x7 : Int)) + (P1 : Int)))] 62)).drew).cell? ((⟨v1.heap.size, 0, none⟩ : Addr).add j) = some u from new_cell v1 _ rfl _ _)
          have HSA := Lib.hid (show w.heap.size + 2 ≤ ((v1.alloc (.cells #[.int .u32 (IntKind.u32.wrap (IntKind.u32.wrap (IntKind.u32.wrap ((x16 : Int) + (P0 : Int)) + (x7 : Int)) + (P1 : Int)))] 62)).drew).heap.size by show _ ≤ (v1.alloc _).heap.size; rw [World.size_alloc]; omega)
          refine wp_region_any (by kernel_rfl) ?_
          change wpAny _ _ _ _ _ _ _ (World.drew _)
          refine wpAny_take (i := 0) (v := ?_) rfl (by kernel_rfl) (by kernel_rfl) (by kernel_rfl) (fun _ _ _ h => h) (Or.inl ⟨by rfl, ?_⟩) ?_
          rotate_left
          focus (intro w; go_simp; try (with_reducible rfl))
          refine wpAny_take (i := 1) (v := ?_) rfl (by kernel_rfl) (by kernel_rfl) (by kernel_rfl) (fun _ _ _ h => h) (Or.inl ⟨by rfl, ?_⟩) ?_
          rotate_left
          focus (intro w; go_simp; try (with_reducible rfl))
          refine wpAny_take (i := 2) (v := ?_) rfl (by kernel_rfl) (by kernel_rfl) (by kernel_rfl) (fun _ _ _ h => h) (Or.inl ⟨by rfl, ?_⟩) ?_
          rotate_left
          focus (intro w; go_simp; try (with_reducible rfl))
          refine wpAny_take (i := 3) (v := ?_) rfl (by kernel_rfl) (by kernel_rfl) (by kernel_rfl) (fun _ _ _ h => h) (Or.inl ⟨by rfl, ?_⟩) ?_
          rotate_left
          focus (intro w; go_simp; try (with_reducible rfl))
          refine wpAny_take (i := 4) (v := ?_) rfl (by kernel_rfl) (by kernel_rfl) (by kernel_rfl) (fun _ _ _ h => h) (Or.inl ⟨by rfl, ?_⟩) ?_
          rotate_left
          focus (intro w; go_simp; try (with_reducible rfl))
          refine wpAny_take (i := 6) (v := ?_) rfl (by kernel_rfl) (by kernel_rfl) (by kernel_rfl) (fun _ _ _ h => h) (Or.inl ⟨by rfl, ?_⟩) ?_
          rotate_left
          focus (intro w; go_simp; try (with_reducible rfl))
          refine wpAny_take (i := 8) (v := ?_) rfl (by kernel_rfl) (by kernel_rfl) (by kernel_rfl) (fun _ _ _ h => h) (Or.inl ⟨by rfl, ?_⟩) ?_
          rotate_left
          focus (intro w; go_simp; try (with_reducible rfl))
          refine wpAny_take (i := 9) (v := ?_) rfl (by kernel_rfl) (by kernel_rfl) (by kernel_rfl) (fun _ _ _ h => h) (Or.inl ⟨by rfl, ?_⟩) ?_
          rotate_left
          focus (intro w; go_simp; try (with_reducible rfl))
          refine wpAny_take (i := 10) (v := ?_) rfl (by kernel_rfl) (by kernel_rfl) (by kernel_rfl) (fun _ _ _ h => h) (Or.inl ⟨by rfl, ?_⟩) ?_
          rotate_left
          focus (intro w; go_simp; try (with_reducible rfl))
          refine wpAny_take (i := 11) (v := ?_) rfl (by kernel_rfl) (by kernel_rfl) (by kernel_rfl) (fun _ _ _ h => h) (Or.inl ⟨by rfl, ?_⟩) ?_
          rotate_left
          focus (intro w; go_simp; try (with_reducible rfl))
          refine wpAny_take (i := 14) (v := ?_) rfl (by kernel_rfl) (by kernel_rfl) (by kernel_rfl) (fun _ _ _ h => h) (Or.inl ⟨by rfl, ?_⟩) ?_
          rotate_left
          focus (intro w; go_simp; try (with_reducible rfl))
          refine wpAny_ready (rs := [5, 12]) (by kernel_rfl) (by simp) ?_
          refine AllReady.cons rfl (fun K hK => ?_) (AllReady.cons rfl (fun K hK => ?_) AllReady.nil)
          · go_simp
            refine hK _ _ ?_
            clear hK K
            refine wpAny_take (i := 7) (v := ?_) rfl (by kernel_rfl) (by kernel_rfl) (by kernel_rfl) (fun _ _ _ h => h) (Or.inl ⟨by rfl, ?_⟩) ?_
            rotate_left
            focus (intro w; go_simp; try (with_reducible rfl))
            refine wpAny_ready (rs := [12]) (by kernel_rfl) (by simp) ?_
            refine AllReady.cons rfl (fun K hK => ?_) AllReady.nil
            go_simp
            refine hK _ _ ?_
            clear hK K
            refine wpAny_take (i := 13) (v := ?_) rfl (by kernel_rfl) (by kernel_rfl) (by kernel_rfl) (fun _ _ _ h => h) (Or.inl ⟨by rfl, ?_⟩) ?_
            rotate_left
            focus (intro w; go_simp; try (with_reducible rfl))
            refine wpAny_take (i := 15) (v := ?_) rfl (by kernel_rfl) (by kernel_rfl) (by kernel_rfl) (fun _ _ _ h => h) (Or.inl ⟨by rfl, ?_⟩) ?_
            rotate_left
            focus (intro w; go_simp; try (with_reducible rfl))
            refine wpAny_ready (rs := [16]) (by kernel_rfl) (by simp) ?_
            refine AllReady.cons rfl (fun K hK => ?_) AllReady.nil
            go_simp
            refine hK _ _ ?_
            clear hK K
            refine wpAny_ready (rs := [17]) (by kernel_rfl) (by simp) ?_
            refine AllReady.cons rfl (fun K hK => ?_) AllReady.nil
            refine step_append_lies _ (by rfl) (.tmp 98) (.tmp 114) 78 (by rfl) (w.heap.size + 2) 62 i0 (.int .u32 0) 1 4 Tryd.underlying78 hi hz0 hz1 hz2 rfl (by decide) (.slice (some ⟨gb, 0, none⟩) (m + 16) cap) (m + 16) ((Sh.ext m (Sh.head bl)).map uv) (by rfl) HRA.out ⟨v1.heap.size, 0, none⟩ 1 1 [Value.int .u32 (IntKind.u32.wrap (IntKind.u32.wrap (IntKind.u32.wrap ((x16 : Int) + (P0 : Int)) + (x7 : Int)) + (P1 : Int)))] (by rfl) (by rfl) HNW.out (by intro u hu; simp at hu; subst hu; rfl) (by decide) (by unfold maxLen; omega) (by omega) HSA.out _ (by rfl) ?_
            intro v4 c4 w4 hown hg _ _
            try go_simp
            refine hK _ _ ?_
            clear hK K
            refine wpAny_take (i := 18) (v := ?_) rfl (by kernel_rfl) (by kernel_rfl) (by kernel_rfl) (fun _ _ _ h => h) (Or.inl ⟨by rfl, ?_⟩) ?_
            rotate_left
            focus (intro w; go_simp; try (with_reducible rfl))
            refine wpAny_done (by kernel_rfl) ?_ _
            have hkp4 := (HKP2.out.alloc (.cells #[.int .u32 (IntKind.u32.wrap (IntKind.u32.wrap (IntKind.u32.wrap ((x16 : Int) + (P0 : Int)) + (x7 : Int)) + (P1 : Int)))] 62)).drew.grown hg (fun j hj => (HRA.out.lt j hj).1)
            have hr4 : WRow w4 (w.heap.size + 2) (.slice (some ⟨v4, 0, none⟩) (m + 16 + 1) c4) (Sh.ext (m + 1) (Sh.head bl)) := by
              rw [HES.out]
              unfold WRow
              rw [List.length_append, List.map_append, HEL.out, List.map_cons, HEQ.out]
              exact hown
            have HKP4 := Lib.hid hkp4
            have HR4 := Lib.hid hr4
            clear hkp4 hr4 hown hg e1 e2 e3 e4 d16 d7
            go_wp2
            go_roundw
            case rel => exact ⟨m + 1, by go_num, hlt, HR4.out, HKP4.out⟩
            case measure => simp [intOf]; omega
          · go_simp
            refine hK _ _ ?_
            clear hK K
            refine wpAny_ready (rs := [5]) (by kernel_rfl) (by simp) ?_
            refine AllReady.cons rfl (fun K hK => ?_) AllReady.nil
            go_simp
            refine hK _ _ ?_
            clear hK K
            refine wpAny_take (i := 7) (v := ?_) rfl (by kernel_rfl) (by kernel_rfl) (by kernel_rfl) (fun _ _ _ h => h) (Or.inl ⟨by rfl, ?_⟩) ?_
            rotate_left
            focus (intro w; go_simp; try (with_reducible rfl))
            refine wpAny_take (i := 13) (v := ?_) rfl (by kernel_rfl) (by kernel_rfl) (by kernel_rfl) (fun _ _ _ h => h) (Or.inl ⟨by rfl, ?_⟩) ?_
            rotate_left
            focus (intro w; go_simp; try (with_reducible rfl))
            refine wpAny_take (i := 15) (v := ?_) rfl (by kernel_rfl) (by kernel_rfl) (by kernel_rfl) (fun _ _ _ h => h) (Or.inl ⟨by rfl, ?_⟩) ?_
            rotate_left
            focus (intro w; go_simp; try (with_reducible rfl))
            refine wpAny_ready (rs := [16]) (by kernel_rfl) (by simp) ?_
            refine AllReady.cons rfl (fun K hK => ?_) AllReady.nil
            go_simp
            refine hK _ _ ?_
            clear hK K
            refine wpAny_ready (rs := [17]) (by kernel_rfl) (by simp) ?_
            refine AllReady.cons rfl (fun K hK => ?_) AllReady.nil
            refine step_append_lies _ (by rfl) (.tmp 98) (.tmp 114) 78 (by rfl) (w.heap.size + 2) 62 i0 (.int .u32 0) 1 4 Tryd.underlying78 hi hz0 hz1 hz2 rfl (by decide) (.slice (some ⟨gb, 0, none⟩) (m + 16) cap) (m + 16) ((Sh.ext m (Sh.head bl)).map uv) (by rfl) HRA.out ⟨v1.heap.size, 0, none⟩ 1 1 [Value.int .u32 (IntKind.u32.wrap (IntKind.u32.wrap (IntKind.u32.wrap ((x16 : Int) + (P0 : Int)) + (x7 : Int)) + (P1 : Int)))] (by rfl) (by rfl) HNW.out (by intro u hu; simp at hu; subst hu; rfl) (by decide) (by unfold maxLen; omega) (by omega) HSA.out _ (by rfl) ?_
            intro v4 c4 w4 hown hg _ _
            try go_simp
            refine hK _ _ ?_
            clear hK K
            refine wpAny_take (i := 18) (v := ?_) rfl (by kernel_rfl) (by kernel_rfl) (by kernel_rfl) (fun _ _ _ h => h) (Or.inl ⟨by rfl, ?_⟩) ?_
            rotate_left
            focus (intro w; go_simp; try (with_reducible rfl))
            refine wpAny_done (by kernel_rfl) ?_ _
            have hkp4 := (HKP2.out.alloc (.cells #[.int .u32 (IntKind.u32.wrap (IntKind.u32.wrap (IntKind.u32.wrap ((x16 : Int) + (P0 : Int)) + (x7 : Int)) + (P1 : Int)))] 62)).drew.grown hg (fun j hj => (HRA.out.lt j hj).1)
            have hr4 : WRow w4 (w.heap.size + 2) (.slice (some ⟨v4, 0, none⟩) (m + 16 + 1) c4) (Sh.ext (m + 1) (Sh.head bl)) := by
              rw [HES.out]
              unfold WRow
              rw [List.length_append, List.map_append, HEL.out, List.map_cons, HEQ.out]
              exact hown
            have HKP4 := Lib.hid hkp4
            have HR4 := Lib.hid hr4
            clear hkp4 hr4 hown hg e1 e2 e3 e4 d16 d7
            go_wp2
            go_roundw
            case rel => exact ⟨m + 1, by go_num, hlt, HR4.out, HKP4.out⟩
            case measure => simp [intOf]; omega
        · obtain rfl : m = 48 := by omega
          obtain ⟨ws, hws⟩ : ∃ ws, Sh.sched bl = ws := ⟨_, rfl⟩
          have hwl : ws.length = 64 := by rw [← hws]; exact Sh.sched_len bl
          have hwt : ∀ x ∈ ws, x < 4294967296 := by rw [← hws]; exact Sh.sched_lt bl
          have hrow2 : WRow wr (w.heap.size + 2) u6 ws := by rw [← hws]; exact hrow
          obtain ⟨gb, cap, rfl, hgb, _⟩ := hrow2.cell (by omega)
          have HRW := Lib.hid hrow2
          have HKP3 := Lib.hid hkp
          have HWS := Lib.hid hws
          have HWL := Lib.hid hwl
          have HWT := Lib.hid hwt
          simp only [hwl]
          clear hrow hkp hws hwl hwt hrow2 hel hlt
          go_wp2_with fail
          obtain ⟨cw, hcw⟩ : ∃ cw, Sh.words = cw := ⟨_, rfl⟩
          have hcl0 : cw.length = 64 := by rw [← hcw]; exact Sh.words_len
          have HCW := Lib.hid hcw
          have HRWD := Lib.hid (rwords wr)
          rw [hcw] at HRWD
          clear hcw
          refine HRWD.out.mono ?_
          rintro ee w6 ⟨rfl, hb6⟩
          have hk6 := HKP3.out.kept hb6
          have hr6 := HRW.out.below hb6
          have hs6 := hk6.size
          have HZ := Lib.hid (ARow.new w6 80 (List.replicate 64 0))
          have HK6 := Lib.hid hk6
          have HR6 := Lib.hid hr6
          clear hb6 hk6 hr6
          go_wp2_with (refine store_arow rfl 80 _ _ rfl w6.heap.size (List.replicate 64 0) cw rfl rfl HZ.out 64 info64 (by simp) hcl0 ?_; intro w7 k1 k2 k3; have HB7 := Lib.hid (k2 _ _ (Nat.le_refl _) ((Below.refl w6.heap.size w6).alloc (Nat.le_refl _) _)); have HK7 := Lib.hid (HK6.out.kept HB7.out); have HW7 := Lib.hid k1; have hx7 := HK7.out.box; have c0 : w7.cell? ⟨w.heap.size, 0, none⟩ = some (uv a) := hx7.cell 0 (by simp); have c1 : w7.cell? ⟨w.heap.size, 1, none⟩ = some (uv b) := hx7.cell 1 (by simp); have c2 : w7.cell? ⟨w.heap.size, 2, none⟩ = some (uv c) := hx7.cell 2 (by simp); have c3 : w7.cell? ⟨w.heap.size, 3, none⟩ = some (uv d) := hx7.cell 3 (by simp); have c4 : w7.cell? ⟨w.heap.size, 4, none⟩ = some (uv e) := hx7.cell 4 (by simp); have c5 : w7.cell? ⟨w.heap.size, 5, none⟩ = some (uv f) := hx7.cell 5 (by simp); have c6 : w7.cell? ⟨w.heap.size, 6, none⟩ = some (uv g) := hx7.cell 6 (by simp); have c7 : w7.cell? ⟨w.heap.size, 7, none⟩ = some (uv k) := hx7.cell 7 (by simp); clear k1 k2 k3 hx7)
          have hr7 := HR6.out.below HB7.out
          obtain ⟨_, _, hev, _, hcl⟩ := hr7.cell (by rw [HWL.out]; decide)
          cases hev
          have HCL := Lib.hid hcl
          clear hr7 hcl c0 c1 c2 c3 c4 c5 c6 c7 HK6 HR6 HZ HRW HKP3
          go_loopw [14, 15, 16, 17, 18, 19, 20, 21, 22] (fun ta tb tc td te tf tg tk i wr => ∃ (n : Nat) (s : Sh.St), i = .int .i64 n ∧ n ≤ 64 ∧ s = Sh.rounds (a, b, c, d, e, f, g, k) ws n ∧ ta = uv s.1 ∧ tb = uv s.2.1 ∧ tc = uv s.2.2.1 ∧ td = uv s.2.2.2.1 ∧ te = uv s.2.2.2.2.1 ∧ tf = uv s.2.2.2.2.2.1 ∧ tg = uv s.2.2.2.2.2.2.1 ∧ tk = uv s.2.2.2.2.2.2.2 ∧ ∃ q, wr = w7.drewN q) (fun _ _ _ _ _ _ _ _ i _ => 64 - (intOf i).toNat)
          case atStart => exact ⟨0, _, rfl, by omega, rfl, rfl, rfl, rfl, rfl, rfl, rfl, rfl, rfl, 0, rfl⟩
          case round =>
            obtain ⟨n, s, rfl, hn, hs, rfl, rfl, rfl, rfl, rfl, rfl, rfl, rfl, q, rfl⟩ := hrel
            by_cases hlt : n < 64
            · have hok2 := Sh.rounds_ok (a, b, c, d, e, f, g, k) ws hok n
              rw [← hs] at hok2
              obtain ⟨sa, sb, sc, sd, se, sf, sg, sk⟩ := s
              obtain ⟨la, lb, lc, ld, le, lf, lg, lk⟩ := hok2
              simp only [] at la lb lc ld le lf lg lk
              have hnl : n < ws.length := by rw [HWL.out]; exact hlt
              have hwn : (w7.drewN q).cell? ⟨gb, n, none⟩ = some (uv ws[n]) := HCL.out n hnl
              have hwl : ws[n] < 4294967296 := HWT.out _ (List.getElem_mem _)
              have hgn : (w7.drewN q).cell? ⟨w6.heap.size, n, none⟩ = some (uv (cw[n]'(by rw [hcl0]; exact hlt))) := (HW7.out.draw q).cell n (by rw [hcl0]; exact hlt)
              have hkl : cw[n]'(by rw [hcl0]; exact hlt) < 4294967296 := by
                have h1 := Sh.words_lt n
                rw [HCW.out, List.getD, List.getElem?_eq_getElem (by rw [hcl0]; exact hlt)] at h1
                exact h1
              have hk0 : Sh.words.getD n 0 = cw[n]'(by rw [hcl0]; exact hlt) := by rw [HCW.out, List.getD, List.getElem?_eq_getElem (by rw [hcl0]; exact hlt)]; rfl
              have hw0 : ws.getD n 0 = ws[n] := by rw [List.getD, List.getElem?_eq_getElem hnl]; rfl
              obtain ⟨wv, hwv⟩ : ∃ x, ws[n] = x := ⟨_, rfl⟩
              obtain ⟨kv, hkv⟩ : ∃ x, cw[n]'(by rw [hcl0]; exact hlt) = x := ⟨_, rfl⟩
              rw [hwv] at hwn hwl hw0
              rw [hkv] at hgn hkl hk0
              have HS1 := Lib.hid hs
              have HWV := Lib.hid hw0
              have HKV := Lib.hid hk0
              clear hs hwv hkv hk0 hw0
              obtain ⟨wq, hq⟩ : ∃ x, w7.drewN q = x := ⟨_, rfl⟩
              rw [hq] at hwn hgn ⊢
              have HQ := Lib.hid hq
              clear hq
              have n1 : (0 : Int) ≤ (n : Int) := by omega
              have n2 : (n : Int) < 64 := by omega
              go_wp2_with fail
              refine (rturn6 se le _).mono ?_
              rintro ee v1 ⟨rfl, rfl⟩
              go_wp2_with fail
              refine (rturn11 se le _).mono ?_
              rintro ee v1 ⟨rfl, rfl⟩
              go_wp2_with fail
              refine (rturn25 se le _).mono ?_
              rintro ee v1 ⟨rfl, rfl⟩
              go_wp2_with fail
              have HTT := Lib.hid (rtt_bits se sf sg sk kv wv le lf lg)
              obtain ⟨T, hT⟩ : ∃ T, Sh.tt se sf sg sk kv wv = T := ⟨_, rfl⟩
              rw [hT] at HTT
              have HT := Lib.hid hT
              clear hT
              go_quiet (fail)
              rw [HTT.out]
              go_wp2_with fail
              refine (rturn2 sa la _).mono ?_
              rintro ee v2 ⟨rfl, rfl⟩
              go_wp2_with fail
              refine (rturn13 sa la _).mono ?_
              rintro ee v2 ⟨rfl, rfl⟩
              go_wp2_with fail
              refine (rturn22 sa la _).mono ?_
              rintro ee v2 ⟨rfl, rfl⟩
              go_wp2
              go_roundw
              case rel =>
                refine ⟨n + 1, (Sh.add T (Sh.uu sa sb sc), sa, sb, sc, Sh.add sd T, se, sf, sg), by go_num, by omega, ?_, ?_, rfl, rfl, rfl, ?_, rfl, rfl, rfl, q + nq, ?_⟩
                · rw [Sh.rounds, ← HS1.out, HKV.out, HWV.out, ← HT.out]; rfl
                · rw [uu_bits sa sb sc la lb lc]; simp [uv, Sh.add]
                · simp [uv, Sh.add]
                · rw [← World.drewN_drewN, HQ.out]
              case measure => simp [intOf]; omega
            · obtain rfl : n = 64 := by omega
              obtain ⟨sa, sb, sc, sd, se, sf, sg, sk⟩ := s
              have HSB := Lib.hid (show Sh.block [a, b, c, d, e, f, g, k] bl = [Sh.add a sa, Sh.add b sb, Sh.add c sc, Sh.add d sd, Sh.add e se, Sh.add f sf, Sh.add g sg, Sh.add k sk] by
                rw [Sh.block, HWS.out, show Sh.ofL [a, b, c, d, e, f, g, k] = (a, b, c, d, e, f, g, k) from rfl, ← hs]; rfl)
              have HK8 := Lib.hid (HK7.out.draws q)
              clear hs HK7 HW7 HCL HB7
              generalize w7.drewN q = w8 at *
              have hx8 := HK8.out.box
              have c0 : w8.cell? ⟨w.heap.size, 0, none⟩ = some (uv a) := hx8.cell 0 (by simp)
              have c1 : w8.cell? ⟨w.heap.size, 1, none⟩ = some (uv b) := hx8.cell 1 (by simp)
              have c2 : w8.cell? ⟨w.heap.size, 2, none⟩ = some (uv c) := hx8.cell 2 (by simp)
              have c3 : w8.cell? ⟨w.heap.size, 3, none⟩ = some (uv d) := hx8.cell 3 (by simp)
              have c4 : w8.cell? ⟨w.heap.size, 4, none⟩ = some (uv e) := hx8.cell 4 (by simp)
              have c5 : w8.cell? ⟨w.heap.size, 5, none⟩ = some (uv f) := hx8.cell 5 (by simp)
              have c6 : w8.cell? ⟨w.heap.size, 6, none⟩ = some (uv g) := hx8.cell 6 (by simp)
              have c7 : w8.cell? ⟨w.heap.size, 7, none⟩ = some (uv k) := hx8.cell 7 (by simp)
              clear hx8
              have ea : uv (Sh.add a sa) = Value.int .u32 ((((a : Nat) : Int) + ((sa : Nat) : Int)) % 4294967296) := by simp [uv, Sh.add]
              have eb : uv (Sh.add b sb) = Value.int .u32 ((((b : Nat) : Int) + ((sb : Nat) : Int)) % 4294967296) := by simp [uv, Sh.add]
              have ec : uv (Sh.add c sc) = Value.int .u32 ((((c : Nat) : Int) + ((sc : Nat) : Int)) % 4294967296) := by simp [uv, Sh.add]
              have ed : uv (Sh.add d sd) = Value.int .u32 ((((d : Nat) : Int) + ((sd : Nat) : Int)) % 4294967296) := by simp [uv, Sh.add]
              have ee : uv (Sh.add e se) = Value.int .u32 ((((e : Nat) : Int) + ((se : Nat) : Int)) % 4294967296) := by simp [uv, Sh.add]
              have ef : uv (Sh.add f sf) = Value.int .u32 ((((f : Nat) : Int) + ((sf : Nat) : Int)) % 4294967296) := by simp [uv, Sh.add]
              have eg : uv (Sh.add g sg) = Value.int .u32 ((((g : Nat) : Int) + ((sg : Nat) : Int)) % 4294967296) := by simp [uv, Sh.add]
              have ek : uv (Sh.add k sk) = Value.int .u32 ((((k : Nat) : Int) + ((sk : Nat) : Int)) % 4294967296) := by simp [uv, Sh.add]
              have hy : (Value.agg ([Sh.add a sa, Sh.add b sb, Sh.add c sc, Sh.add d sd, Sh.add e se, Sh.add f sf, Sh.add g sg, Sh.add k sk].map uv).toArray) = .agg #[Value.int .u32 ((((a : Nat) : Int) + ((sa : Nat) : Int)) % 4294967296), Value.int .u32 ((((b : Nat) : Int) + ((sb : Nat) : Int)) % 4294967296), Value.int .u32 ((((c : Nat) : Int) + ((sc : Nat) : Int)) % 4294967296), Value.int .u32 ((((d : Nat) : Int) + ((sd : Nat) : Int)) % 4294967296), Value.int .u32 ((((e : Nat) : Int) + ((se : Nat) : Int)) % 4294967296), Value.int .u32 ((((f : Nat) : Int) + ((sf : Nat) : Int)) % 4294967296), Value.int .u32 ((((g : Nat) : Int) + ((sg : Nat) : Int)) % 4294967296), Value.int .u32 ((((k : Nat) : Int) + ((sk : Nat) : Int)) % 4294967296)] := by
                simp only [List.map_cons, List.map_nil, ea, eb, ec, ed, ee, ef, eg, ek]
              have HY := Lib.hid hy
              clear hy ea eb ec ed ee ef eg ek
              go_wp2_with (refine store_arow rfl 63 _ _ rfl (w.heap.size + 1) (List.replicate 8 0) [Sh.add a sa, Sh.add b sb, Sh.add c sc, Sh.add d sd, Sh.add e se, Sh.add f sf, Sh.add g sg, Sh.add k sk] rfl HY.out.symm HK8.out.res 8 info8 (by simp) rfl ?_; intro w9 k1 k2 k3)
              have d0 : w9.cell? ⟨w.heap.size + 1, 0, none⟩ = some (uv (Sh.add a sa)) := k1.cell 0 (by simp)
              have d1 : w9.cell? ⟨w.heap.size + 1, 1, none⟩ = some (uv (Sh.add b sb)) := k1.cell 1 (by simp)
              have d2 : w9.cell? ⟨w.heap.size + 1, 2, none⟩ = some (uv (Sh.add c sc)) := k1.cell 2 (by simp)
              have d3 : w9.cell? ⟨w.heap.size + 1, 3, none⟩ = some (uv (Sh.add d sd)) := k1.cell 3 (by simp)
              have d4 : w9.cell? ⟨w.heap.size + 1, 4, none⟩ = some (uv (Sh.add e se)) := k1.cell 4 (by simp)
              have d5 : w9.cell? ⟨w.heap.size + 1, 5, none⟩ = some (uv (Sh.add f sf)) := k1.cell 5 (by simp)
              have d6 : w9.cell? ⟨w.heap.size + 1, 6, none⟩ = some (uv (Sh.add g sg)) := k1.cell 6 (by simp)
              have d7 : w9.cell? ⟨w.heap.size + 1, 7, none⟩ = some (uv (Sh.add k sk)) := k1.cell 7 (by simp)
              refine bodyPost_ret (v := .tuple #[.agg #[uv (Sh.add a sa), uv (Sh.add b sb), uv (Sh.add c sc), uv (Sh.add d sd), uv (Sh.add e se), uv (Sh.add f sf), uv (Sh.add g sg), uv (Sh.add k sk)], .int .i64 0]) (by simp [results, Tryd.results37, go_sem, d0, d1, d2, d3, d4, d5, d6, d7]) rfl ⟨by rw [HSB.out]; rfl, k2 _ _ (by omega) HK8.out.bel⟩
end Go.Proofs.YtkkiedmcpibnaaaDoor
