/- CertBack: the walk. -/
import Derived.Test.YtflmfbcjmjlkbaaGreatDoorCrTake
namespace Go.Proofs.YtflmfbcjmjlkbaaGreatDoor
open Go.RowKit Go.ChangeShapes Go.WideShapes Go.ChangeAt
set_option maxRecDepth 100000
attribute [local go_sem] ByteArray.mk_append_mk

theorem pcbytes_eq {n : Int} {p : Cr.Prf} {R : List UInt8 × Nat} (h : Cr.bytesR p n = R) (bv pv : Value) (w : World) (hb : BtsAt w bv p.1.2.2.1) (hp : TxAt w pv p.1.2.2.2.1) (mv : Vt.Mod p.1) (hx : p.2 < 18446744073709551616) (n1 : -9223372036854775808 ≤ n) (n2 : n ≤ 9223372036854775807) :
    Calls Tryz.prog 5 #[prfV p.1.1 p.1.2.1 bv pv p.1.2.2.2.2.1 p.1.2.2.2.2.2 p.2, .int .i64 n] w fun e w' => e = .returned (.tuple #[tx R.1, .int .i64 R.2]) ∧ Below w.heap.size w w' :=
  h ▸ pcbytes n p bv pv w hb hp mv hx n1 n2
theorem pctake_eq {s : List UInt8} {n : Int} {R : Cr.Prf × Nat} (h : Cr.take s n = R) (hs : s.length ≤ 140737488351232) (hnb : n ≤ 4294967296 ∨ s.length ≤ 4294967296) (n1 : -9223372036854775808 ≤ n) (n2 : n ≤ 9223372036854775807) (w : World) :
    Calls Tryz.prog 7 #[tx s, .int .i64 n] w (PT R w) := h ▸ pctake s n hs hnb n1 n2 w
theorem rcsame_eq {p q : Cr.Prf} {g : Bool} (h : (p == q) = g) (bv pv bv' pv' : Value) (w : World) (hb : BtsAt w bv p.1.2.2.1) (hp : TxAt w pv p.1.2.2.2.1) (hb' : BtsAt w bv' q.1.2.2.1) (hp' : TxAt w pv' q.1.2.2.2.1) (mv : Vt.Mod p.1) :
    Calls Tryz.prog 9 #[prfV p.1.1 p.1.2.1 bv pv p.1.2.2.2.2.1 p.1.2.2.2.2.2 p.2, prfV q.1.1 q.1.2.1 bv' pv' q.1.2.2.2.2.1 q.1.2.2.2.2.2 q.2] w fun e w' => e = .returned (.bool g) ∧ Below w.heap.size w w' :=
  h ▸ rcsame p q bv pv bv' pv' w hb hp hb' hp' mv
theorem cr_back {p : Cr.Prf} {n : Int} (h : Cr.fits p n = 0) (hx : p.2 < 18446744073709551616) : Cr.take (Cr.bytes p) n = (p, 0) := Cr.take_yes h hx rfl

section
variable {H : Type} {enc : TypeId × Value → H} {W : World}
theorem open_prf {base : Nat} {v : Value} {d : DataW H} {p : List MemPlace} (o : Value.okWide Tryz.prog W .any base 30 v) (h : DataW.Trod enc Tryz.prog W 0 (fun _ => true) true 30 v d p) (hsz : (DataW.weights Tryz.prog 30 d).all (· ≤ reachBytes) = true) :
    ∃ (p : Cr.Prf) (bv pv : Value), v = prfV p.1.1 p.1.2.1 bv pv p.1.2.2.2.2.1 p.1.2.2.2.2.2 p.2 ∧ BtsAt W bv p.1.2.2.1 ∧ TxAt W pv p.1.2.2.2.1 ∧ Vt.Mod p.1 ∧ p.2 < 18446744073709551616 := by
  obtain ⟨cs, rfl, hs⟩ := okWide_struct Tryz.underlying30 o
  obtain ⟨n, hn⟩ := h
  have hC : Tryz.prog.cellsOf 30 = 7 := by kernel_rfl
  obtain ⟨u, bv, pv, e, r⟩ := elem_prf n cs.toList (d, p) (by simpa using hs.trans hC) (by simpa [Value.cells] using hn) hsz
  refine ⟨u, bv, pv, ?_, r⟩
  obtain ⟨l⟩ := cs
  simp only at e
  rw [e]
end

end Go.Proofs.YtflmfbcjmjlkbaaGreatDoor
