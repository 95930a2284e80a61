/- The contracts of the document's answer of layer 6: By, All. -/
import Derived.Test.YtpodccgaigkalaaBookRef2
import Derived.Test.YtpodccgaigkalaaSeatRef2
namespace Go.Proofs.Ytpodccgaigkalaa
open Go.RowKit

@[go_sem] theorem build_seal (x : Int) (t : List UInt8) (w : World) : (Instr.build 24 #[(0, .int .i64 x), (1, tx t)]).run Try.prog w = .ok (.agg #[.int .i64 x, tx t]) w := run_build w 24 _ _ (by kernel_rfl)
theorem rput_eq {v : Nat} {id : Int} {a x : Nat} (h : Se.putR v id = (a, x)) (hv : v < 18446744073709551616) (w : World) :
    Calls Try.prog 30 #[.int .u64 v, .int .i64 id] w fun e w' => e = .returned (.tuple #[.int .u64 a, .int .i64 x]) ∧ Below w.heap.size w w' := by
  have := rput_any v id hv w
  rw [h] at this
  exact this

set_option maxHeartbeats 1000000 in
theorem rby_any (v : Value) (l : List Bk.Sl) (t : List UInt8) (w : World) (hs : FlatAt w v 2 (seals l)) (hl : l.length ≤ 140737488351232) :
    Calls Try.prog 19 #[v, tx t] w fun e w' => e = .returned (.int .u64 (Bk.by' l t)) ∧ Below w.heap.size w w' := by
  go_enter Try.func19, Try.ntmps19
  go_wp2_with fail
  go_loopw [5, 6] (fun o i wr => ∃ k : Nat, i = .int .i64 ((k : Int) + 1) ∧ o = .int .u64 (Bk.byTo l t k) ∧ k ≤ 64 ∧ Below w.heap.size w wr) (fun _ i _ => 65 - (intOf i).toNat)
  case atStart => exact ⟨0, rfl, rfl, by omega, Below.refl _ _⟩
  case round =>
    obtain ⟨k, rfl, rfl, hk, hbel⟩ := hrel
    by_cases hlt : k < 64
    · have hf := Bk.byTo_lt l t k (by omega)
      have hp : Se.putR (Bk.byTo l t k) ((k : Int) + 1) = (Se.put (Bk.byTo l t k) (k + 1), 0) := by rw [Se.putR, if_pos (by omega), show ((k : Int) + 1).toNat = k + 1 by omega]
      have hn : Bk.byTo l t (k + 1) = if Bk.has l ((k : Int) + 1, t) then Se.put (Bk.byTo l t k) (k + 1) else Bk.byTo l t k := rfl
      obtain ⟨F, hF⟩ : ∃ x, Bk.byTo l t k = x := ⟨_, rfl⟩
      obtain ⟨G, hG⟩ : ∃ x, Bk.byTo l t (k + 1) = x := ⟨_, rfl⟩
      obtain ⟨P, hP⟩ : ∃ x, Se.put F (k + 1) = x := ⟨_, rfl⟩
      rw [hF] at hp hf hn ⊢
      rw [hG] at hn
      rw [hP] at hp hn
      have PP := Lib.hid hp
      have HG := Lib.hid hG
      have HS := Lib.hid (hs.below hbel)
      clear hp hF hG hP
      cases hr : Bk.has l ((k : Int) + 1, t) with
      | false =>
        rw [hr] at hn
        have R := Lib.hid hr
        have HN := Lib.hid hn
        clear hr hn
        go_wp2_with fail
        refine (rbhas_eq (s := ((k : Int) + 1, t)) R.out _ HS.out hl).mono ?_
        rintro e w1 ⟨rfl, h1⟩
        have g1 := grow_trans hbel h1
        go_wp2_with fail
        go_roundw
        case rel => exact ⟨k + 1, by go_num, by rw [HG.out, HN.out]; rfl, hlt, g1⟩
        case measure => simp [intOf]; omega
      | true =>
        rw [hr] at hn
        have R := Lib.hid hr
        have HN := Lib.hid hn
        clear hr hn
        go_wp2_with fail
        refine (rbhas_eq (s := ((k : Int) + 1, t)) R.out _ HS.out hl).mono ?_
        rintro e w1 ⟨rfl, h1⟩
        have g1 := grow_trans hbel h1
        go_wp2_with fail
        refine (rput_eq PP.out hf _).mono ?_
        rintro e w2 ⟨rfl, h2⟩
        have g2 := grow_trans g1 h2
        go_wp2_with fail
        go_roundw
        case rel => exact ⟨k + 1, by go_num, by rw [HG.out, HN.out]; rfl, hlt, g2⟩
        case measure => simp [intOf]; omega
    · obtain rfl : k = 64 := by omega
      go_wp2
      go_ret
      exact ⟨rfl, hbel⟩

set_option maxHeartbeats 1000000 in
theorem rall_any (v : Value) (l : List Bk.Sl) (x : Nat) (t : List UInt8) (w : World) (hs : FlatAt w v 2 (seals l)) (hl : l.length ≤ 140737488351232) (hx : x < 18446744073709551616) :
    Calls Try.prog 21 #[v, .int .u64 x, tx t] w fun e w' => e = .returned (.bool (Bk.all l x t)) ∧ Below w.heap.size w w' := by
  have hl64 : (Se.list x).length ≤ 64 := list_len64 x
  go_enter Try.func21, Try.ntmps21
  go_wp2_with fail
  refine (rlist_any x hx _).mono ?_
  rintro e w1 ⟨s, rfl, hsl, h1⟩
  rcases rlist_open hsl (Below.refl _ _) with ⟨h0, a, cap, rfl⟩ | ⟨b, off, cap, rfl, hc⟩
  · have hf : Bk.all l x t = true := by rw [Bk.all, h0]; rfl
    have HF := Lib.hid hf
    clear hf h0 hsl
    go_wp2_with fail
    refine wp_loop_rounds 1 ?_
    rw [rounds_succ]
    go_wp2
    go_ret
    exact ⟨by rw [HF.out]; rfl, h1⟩
  · obtain ⟨m, hm⟩ : ∃ m, Se.list x = m := ⟨_, rfl⟩
    have hall : Bk.all l x t = m.all fun i => Bk.has l ((i : Int), t) := by rw [Bk.all, hm]
    rw [hm] at hsl hl64
    have hc' : ∀ k (hk : k < m.length), w1.cell? ⟨b, off + k, none⟩ = some (.int .i64 (m[k] : Nat)) := by
      subst hm
      exact hc
    have hm64 : ∀ i ∈ m, i ≤ 64 := by subst hm; exact fun i hi => ((Se.list_mem x i).mp hi).2.1
    have hn : (Se.list x).length = m.length := by rw [hm]
    rw [hn]
    have HC := Lib.hid hc'
    have HA := Lib.hid hall
    have HM := Lib.hid hm64
    clear hc hc' hall hm hsl hn hm64
    go_wp2_with fail
    go_loopw [8] (fun i wr => ∃ k : Nat, i = .int .i64 k ∧ k ≤ m.length ∧ (∀ y ∈ m.take k, Bk.has l ((y : Int), t) = true) ∧ Below w.heap.size w wr ∧ Below w1.heap.size w1 wr) (fun i _ => m.length - (intOf i).toNat)
    case atStart => exact ⟨0, rfl, by omega, by simp, h1, Below.refl _ _⟩
    case round =>
      obtain ⟨k, rfl, hk, hy, hbel, hb1⟩ := hrel
      have HY := Lib.hid hy
      clear hy
      by_cases hlt : k < m.length
      · have c1 := below_cell hb1 (HC.out k hlt)
        have hle := HM.out m[k] (List.getElem_mem hlt)
        have hi : m[k] ∈ m := List.getElem_mem hlt
        obtain ⟨y, ey⟩ : ∃ y, m[k] = y := ⟨_, rfl⟩
        rw [ey] at c1 hle hi
        have EY := Lib.hid ey
        have HI := Lib.hid hi
        have HS := Lib.hid (hs.below hbel)
        clear ey hi
        cases hr : Bk.has l ((y : Int), t) with
        | false =>
          have hf : Bk.all l x t = false := by
            rw [HA.out]
            exact List.all_eq_false.mpr ⟨y, HI.out, by rw [hr]; simp⟩
          have R := Lib.hid hr
          have HF := Lib.hid hf
          clear hr hf
          go_wp2_with fail
          refine (rbhas_eq (s := ((y : Int), t)) R.out _ HS.out hl).mono ?_
          rintro e w2 ⟨rfl, h2⟩
          have g2 := grow_trans hbel h2
          go_wp2_with fail
          go_ret
          exact ⟨by rw [HF.out]; rfl, g2⟩
        | true =>
          have R := Lib.hid hr
          clear hr
          go_wp2_with fail
          refine (rbhas_eq (s := ((y : Int), t)) R.out _ HS.out hl).mono ?_
          rintro e w2 ⟨rfl, h2⟩
          have g2 := grow_trans hbel h2
          have g3 := grow_trans hb1 h2
          go_wp2_with fail
          go_roundw
          case rel =>
            refine ⟨k + 1, by go_num, hlt, ?_, g2, g3⟩
            intro z hz
            rw [List.take_succ_eq_append_getElem hlt, List.mem_append, List.mem_singleton] at hz
            rcases hz with hz | rfl
            · exact HY.out z hz
            · rw [EY.out]; exact R.out
          case measure => simp [intOf]; omega
      · obtain rfl : k = m.length := by omega
        have hf : Bk.all l x t = true := by
          rw [HA.out, List.all_eq_true]
          intro y hy
          exact HY.out y (by rw [List.take_length]; exact hy)
        have HF := Lib.hid hf
        clear hf
        go_wp2
        go_ret
        exact ⟨by rw [HF.out]; rfl, hbel⟩
end Go.Proofs.Ytpodccgaigkalaa
