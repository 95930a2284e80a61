/- Package vertex as it landed: which parents, and which share, may be a vertex's. -/
import Derived.Test.YtmhohnffaffdfaaVtxMayB
import Derived.Test.YtmhohnffaffdfaaKeep
namespace Vt
theorem mayP_one (n : Int) (l : List (List UInt8)) : mayP 1 n l = (l.length == 0) := by rw [mayP, if_pos rfl, Bool.eq_iff_iff, decide_eq_true_iff, beq_iff_eq]
theorem mayP_short {r n : Int} {l : List (List UInt8)} (hr : r ≠ 1) (h : (l.length : Int) < Se.quorum n ∨ n < l.length) : mayP r n l = false := by
  rw [mayP, if_neg hr, decide_eq_false (by omega), Bool.false_and]
open Classical in
theorem mayP_no {r n : Int} {l : List (List UInt8)} (hr : r ≠ 1) (i : Nat) (h : ¬ okP l i) : mayP r n l = false := by
  rw [mayP, if_neg hr, decide_eq_false (p := asc l) (fun ha => h (ha i)), Bool.and_false]
open Classical in
theorem mayP_yes {r n : Int} {l : List (List UInt8)} (hr : r ≠ 1) (h1 : Se.quorum n ≤ l.length) (h2 : (l.length : Int) ≤ n) (h : ∀ i, i < l.length → okP l i) : mayP r n l = true := by
  rw [mayP, if_neg hr, decide_eq_true (And.intro h1 h2), decide_eq_true (p := asc l) (fun i hi => h i hi hi), Bool.and_true]
theorem okP_len {l : List (List UInt8)} {i : Nat} (hi : i < l.length) (h : l[i].length ≠ 32) : ¬ okP l i := fun hh => h (hh hi).1
theorem okP_less {l : List (List UInt8)} {i : Nat} (hi : i < l.length) (h0 : 0 < i) (h : Dg.less l[i - 1] l[i] = false) : ¬ okP l i := fun hh => by
  have := (hh hi).2 h0
  rw [h] at this; cases this
end Vt
namespace Go.Proofs.Ytmhohnffaffdfaa
open Go.RowKit
theorem bytesLess_eq : ∀ a b : List UInt8, Op.bytesLess a b = Dg.less a b := by
  intro a
  induction a with
  | nil => intro b; cases b <;> rfl
  | cons x a ih =>
    intro b
    cases b with
    | nil => rfl
    | cons y b =>
      rw [Op.bytesLess, Dg.less, ih]
      by_cases e : x = y
      · subst e; simp
      · simp [e, UInt8.lt_iff_toNat_lt]
theorem binOp_string_geq (t : TypeId) (a b : ByteArray) : binOp .geq t (.string a) (.string b) = pure (.bool !(Op.bytesLess a.toList b.toList)) := by simp [binOp, Op.stringOp]
attribute [local go_sem] binOp_string_geq
attribute [local go_sem] build_el build_el0 eq_el guard_el

theorem pquorum_eq {n q : Int} (h : Se.quorum n = q) (h1 : -9223372036854775808 ≤ n) (h2 : n ≤ 9223372036854775807) (w : World) :
    Calls Try.prog 50 #[.int .i64 n] w fun e w' => e = .returned (.int .i64 q) ∧ w' = w := by
  subst h; exact (pquorum_any n h1 h2 w).mono fun e w' ⟨he, hw⟩ => ⟨he, hw.symm⟩

set_option maxHeartbeats 2000000 in
theorem pmayP (a r x y n : Int) (bv pv : Value) (ps : List (List UInt8)) (w : World) (hp : TxAt w pv ps) (hl : ps.length ≤ 140737488351232) (n1 : -9223372036854775808 ≤ n) (n2 : n ≤ 9223372036854775807) :
    Calls Try.prog 29 #[vtxV a r bv pv x y, .int .i64 n] w fun e w' => e = .returned (.bool (Vt.mayP r n ps)) ∧ Below w.heap.size w w' := by
  have VB := Lib.hid (VBox.new w a r bv pv x y)
  have HG := Lib.hid (show Below w.heap.size w (w.alloc (.cells #[.int .i64 a, .int .i64 r, bv, pv, .int .i64 x, .int .i64 y] 28)) from (Below.refl _ _).alloc (Nat.le_refl _) _)
  obtain ⟨ap, cp, hpe⟩ := hp.len
  have HP := Lib.hid hp
  by_cases h1 : r = 1
  · subst h1
    subst hpe
    rw [Vt.mayP_one]
    have e : ((ps.length : Int) == 0) = (ps.length == 0) := by rw [Bool.eq_iff_iff, beq_iff_eq, beq_iff_eq]; omega
    rw [← e]
    clear hp e
    go_enter Try.func29, Try.ntmps29
    go_wp2
    go_ret
    exact ⟨rfl, HG.out⟩
  have t1 : (r == 1) = false := by rw [beq_eq_false_iff_ne]; exact h1
  have H1 := Lib.hid h1
  obtain ⟨q, hq⟩ : ∃ q, Se.quorum n = q := ⟨_, rfl⟩
  have HQ := Lib.hid hq
  clear h1 hq
  by_cases h2 : (ps.length : Int) < q
  · subst hpe
    rw [Vt.mayP_short H1.out (.inl (by rw [HQ.out]; exact h2))]
    have t2 : decide ((ps.length : Int) < q) = true := decide_eq_true h2
    clear hp h2
    go_enter Try.func29, Try.ntmps29
    go_wp2_with fail
    go_quiet ((go_at_call 50; exact Calls.quiet_of_same (pquorum_eq HQ.out n1 n2 _)))
    go_wp2
    go_ret
    exact ⟨rfl, below_drewN HG.out _⟩
  have t2 : decide ((ps.length : Int) < q) = false := decide_eq_false h2
  by_cases h3 : n < (ps.length : Int)
  · subst hpe
    rw [Vt.mayP_short H1.out (.inr h3)]
    have t3 : decide (n < (ps.length : Int)) = true := decide_eq_true h3
    clear hp h2 h3
    go_enter Try.func29, Try.ntmps29
    go_wp2_with fail
    go_quiet ((go_at_call 50; exact Calls.quiet_of_same (pquorum_eq HQ.out n1 n2 _)))
    go_wp2
    go_ret
    exact ⟨rfl, below_drewN HG.out _⟩
  have t3 : decide (n < (ps.length : Int)) = false := decide_eq_false h3
  have HY := Lib.hid (fun h => Vt.mayP_yes (l := ps) H1.out (show Se.quorum n ≤ ps.length by rw [HQ.out]; omega) (show (ps.length : Int) ≤ n by omega) h)
  have HN := Lib.hid (fun i h => Vt.mayP_no (n := n) (l := ps) H1.out i h)
  clear h2 h3 hpe
  rcases hp with ⟨aa, cap, rfl, rfl⟩ | ⟨b, off, cap, rfl, hc⟩
  · rw [HY.out (fun i h => absurd h (by simp))]
    have t4 : decide (0 < q) = false := by simpa using t2
    have t5 : decide (n < 0) = false := by simpa using t3
    clear HY HN H1
    go_enter Try.func29, Try.ntmps29
    go_wp2_with fail
    go_quiet ((go_at_call 50; exact Calls.quiet_of_same (pquorum_eq HQ.out n1 n2 _)))
    go_wp2_with fail
    refine wp_loop_rounds 1 ?_
    rw [rounds_succ]
    go_wp2
    go_ret
    exact ⟨rfl, below_drewN HG.out _⟩
  have HC := Lib.hid hc
  clear hc H1
  go_enter Try.func29, Try.ntmps29
  go_wp2_with fail
  go_quiet ((go_at_call 50; exact Calls.quiet_of_same (pquorum_eq HQ.out n1 n2 _)))
  go_wp2_with fail
  go_loopw [5, 6, 30] (fun _ _ i wr => ∃ k : Nat, i = .int .i64 k ∧ k ≤ ps.length ∧ (∀ j, j < k → Vt.okP ps j) ∧ ∃ d, wr = (w.alloc (.cells #[.int .i64 a, .int .i64 r, bv, .slice (some ⟨b, off, none⟩) ps.length cap, .int .i64 x, .int .i64 y] 28)).drewN d) (fun _ _ i _ => ps.length - (intOf i).toNat)
  case atStart => exact ⟨0, rfl, by omega, fun _ h => absurd h (by omega), _, rfl⟩
  case round =>
    obtain ⟨k, rfl, hk, hn, d, rfl⟩ := hrel
    have HO := Lib.hid hn
    clear hn
    by_cases hlt : k < ps.length
    · have c1 := below_cell HG.out (HC.out k hlt)
      by_cases e32 : ps[k].length = 32
      · have t4 : ((ps[k].length : Int) != 32) = false := by rw [e32]; rfl
        by_cases e0 : k = 0
        · subst e0
          have hok : ∀ j, j < 0 + 1 → Vt.okP ps j := fun j hj => by
            obtain rfl : j = 0 := by omega
            exact fun _ => ⟨e32, fun h => absurd h (by omega)⟩
          have HK := Lib.hid hok
          simp only [Nat.add_zero] at c1
          clear hok e32
          generalize ps[0] = z at *
          go_wp2
          go_roundw
          case rel => exact ⟨0 + 1, by go_num, hlt, HK.out, _, rfl⟩
          case measure => simp [intOf]; omega
        · have t5 : decide ((0 : Int) < k) = true := decide_eq_true (by omega)
          have c2 := below_cell HG.out (HC.out (k - 1) (by omega))
          have ek : ((k : Int) - 1) = ((k - 1 : Nat) : Int) := by omega
          cases hls : Dg.less ps[k - 1] ps[k] with
          | true =>
            have hok : ∀ j, j < k + 1 → Vt.okP ps j := fun j hj => by
              by_cases e : j = k
              · subst e; exact fun _ => ⟨e32, fun _ => hls⟩
              · exact HO.out j (by omega)
            have HK := Lib.hid hok
            have t6 : Op.bytesLess ps[k - 1] ps[k] = true := by rw [bytesLess_eq]; exact hls
            clear hok e32 hls
            generalize ps[k] = z at *
            generalize ps[k - 1] = z' at *
            go_wp2
            go_roundw
            case rel => exact ⟨k + 1, by go_num, hlt, HK.out, _, rfl⟩
            case measure => simp [intOf]; omega
          | false =>
            have E := Lib.hid (HN.out k (Vt.okP_less hlt (by omega) hls))
            have t6 : Op.bytesLess ps[k - 1] ps[k] = false := by rw [bytesLess_eq]; exact hls
            clear e32 hls
            generalize ps[k] = z at *
            generalize ps[k - 1] = z' at *
            go_wp2
            go_ret
            exact ⟨by rw [E.out]; rfl, below_drewN HG.out _⟩
      · have t4 : ((ps[k].length : Int) != 32) = true := by rw [bne_iff_ne]; omega
        have E := Lib.hid (HN.out k (Vt.okP_len hlt e32))
        clear e32
        generalize ps[k] = z at *
        go_wp2
        go_ret
        exact ⟨by rw [E.out]; rfl, below_drewN HG.out _⟩
    · obtain rfl : k = ps.length := by omega
      have E := Lib.hid (HY.out HO.out)
      go_wp2
      go_ret
      exact ⟨by rw [E.out]; rfl, below_drewN HG.out _⟩
end Go.Proofs.Ytmhohnffaffdfaa
