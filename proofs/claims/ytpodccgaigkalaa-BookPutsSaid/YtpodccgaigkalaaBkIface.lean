/- Package book as it landed, and the document's answer, as the statements of layer 6 use them; the document's example. -/
import Derived.Test.YtpodccgaigkalaaBkPut3
import Derived.Test.YtpodccgaigkalaaBkBy
import Derived.Test.YtpodccgaigkalaaBkRight
import Derived.Test.YtpodccgaigkalaaBookRef3
import Derived.Test.YtpodccgaigkalaaBookRef4
namespace Go.Proofs.Ytpodccgaigkalaa
open Go.RowKit

theorem rby_eq {v : Value} {l : List Bk.Sl} {t : List UInt8} {r : Nat} (h : Bk.by' l t = r) (w : World) (hs : FlatAt w v 2 (seals l)) (hl : l.length ≤ 140737488351232) :
    Calls Try.prog 19 #[v, tx t] w fun e w' => e = .returned (.int .u64 r) ∧ Below w.heap.size w w' := by subst h; exact rby_any v l t w hs hl
theorem rall_eq {v : Value} {l : List Bk.Sl} {x : Nat} {t : List UInt8} {r : Bool} (h : Bk.all l x t = r) (w : World) (hs : FlatAt w v 2 (seals l)) (hl : l.length ≤ 140737488351232) (hx : x < 18446744073709551616) :
    Calls Try.prog 21 #[v, .int .u64 x, tx t] w fun e w' => e = .returned (.bool r) ∧ Below w.heap.size w w' := by subst h; exact rall_any v l x t w hs hl hx
theorem BookAt.len {w : World} {v : Value} {l : List Bk.Sl} (h : BookAt w v l) : ∃ a cap, v = .slice a l.length cap := by
  rcases h with ⟨a, rfl, rfl⟩ | ⟨b, off, cap, rfl, _, _, _⟩
  · exact ⟨a, 0, rfl⟩
  · exact ⟨_, cap, rfl⟩
/-- A seal more: the book that comes out. -/
theorem pput_eq {v : Value} {l m : List Bk.Sl} {s : Bk.Sl} (h : Bk.put l s = m) (w : World) (hv : BookAt w v l) (hl : l.length ≤ 5864062014804) :
    Calls Try.prog 12 #[v, sv s] w fun e w' => ∃ u, e = .returned u ∧ BookAt w' u m ∧ Below w.heap.size w w' := by
  subst h
  refine (pbput v l s w hv hl).mono ?_
  rintro e w' ⟨u, rfl, hown, hb⟩
  exact ⟨u, rfl, BookAt.own hown, hb⟩
theorem pright_eq {v : Value} {l : List Bk.Sl} {r : Bool} (h : Bk.right l = r) (w : World) (hs : FlatAt w v 2 (seals l)) (hl : l.length ≤ 140737488351232) :
    Calls Try.prog 16 #[v] w fun e w' => e = .returned (.bool r) ∧ Below w.heap.size w w' := by subst h; exact pright v l w hs hl

set_option maxHeartbeats 2000000 in
theorem bkShown (w : World) : Calls Try.prog 10 #[] w fun e w' => e = .returned (.bool true) ∧ Below w.heap.size w w' := by
  have p1 : Bk.put [] ((2, [120]) : Bk.Sl) = [(2, [120])] := by decide +kernel
  have p2 : Bk.put [((2, [120]) : Bk.Sl)] (1, [121]) = [(1, [121]), (2, [120])] := by decide +kernel
  have p3 : Bk.right [((1, [121]) : Bk.Sl), (2, [120])] = true := by decide +kernel
  have p4 : Bk.by' [((1, [121]) : Bk.Sl), (2, [120])] [120] = 2 := by decide +kernel
  have p5 : Bk.all [((1, [121]) : Bk.Sl), (2, [120])] 3 [120] = false := by decide +kernel
  have P1 := Lib.hid p1
  have P2 := Lib.hid p2
  have P3 := Lib.hid p3
  have P4 := Lib.hid p4
  have P5 := Lib.hid p5
  clear p1 p2 p3 p4 p5
  go_enter Try.func10, Try.ntmps10
  go_wp2_with fail
  refine (pput_eq P1.out _ (.inl ⟨none, rfl, rfl⟩) (by simp)).mono ?_
  rintro e w1 ⟨u1, rfl, hv1, h1⟩
  have HV1 := Lib.hid hv1
  clear hv1
  go_wp2_with fail
  refine (pput_eq P2.out _ HV1.out (by simp)).mono ?_
  rintro e w2 ⟨u2, rfl, hv2, h2⟩
  have g2 := grow_trans h1 h2
  have HV2 := Lib.hid hv2
  rcases hv2 with ⟨_, _, h⟩ | ⟨b, off, cap, rfl, _, _, hc⟩
  · exact absurd h (by simp)
  · have c0 : w2.cell? ⟨b, off, none⟩ = some (.int .i64 1) := by simpa [iv] using (hc 0 (by simp)).1
    clear hc h1 h2
    go_wp2_with fail
    refine (pright_eq P3.out _ HV2.out.flat (by simp)).mono ?_
    rintro e w3 ⟨rfl, h3⟩
    have g3 := grow_trans g2 h3
    go_wp2_with fail
    refine (pby_eq P4.out _ (HV2.out.below h3).flat (by simp)).mono ?_
    rintro e w4 ⟨rfl, h4⟩
    have g4 := grow_trans g3 h4
    have h34 := grow_trans h3 h4
    go_wp2_with fail
    refine (pall_eq P5.out _ (HV2.out.below h34).flat (by simp) (by decide)).mono ?_
    rintro e w5 ⟨rfl, h5⟩
    have g5 := grow_trans g4 h5
    go_wp2_with fail
    go_ret
    exact ⟨rfl, g5⟩
end Go.Proofs.Ytpodccgaigkalaa
