/- PaperTorn: the walk. -/
import Derived.Test.YtkkiedmcpibnaaaDoorPapBeg
import Derived.Test.YtkkiedmcpibnaaaDoorOpenTxs2
import Derived.Maps.AppendAt
namespace Go.Proofs.YtkkiedmcpibnaaaDoor
open Go.RowKit Go.ChangeShapes Go.WideShapes Go.ChangeAt
set_option maxRecDepth 100000
attribute [local go_sem] ByteArray.mk_append_mk

theorem info_intT : (Tryd.prog.info? 3).map (fun i => (i.zero, i.size, i.bytes)) = some (some (.int .i64 0), 1, 8) := by kernel_rfl
theorem pbegins_eq {va vb : Value} {a b : List (List UInt8)} {r : Bool} (h : (decide (a.length ≤ b.length) && (a == b.take a.length)) = r) (w : World) (ha : TxAt w va a) (hb : TxAt w vb b) (hcb : CapOk vb) (la : a.length ≤ 140737488351232) :
    Calls Tryd.prog 25 #[va, vb] w fun e w' => e = .returned (.bool r) ∧ ∃ n, w' = w.drewN n := h ▸ pbegins va vb a b w ha hb hcb la

set_option maxHeartbeats 4000000 in
theorem paperTorn_core (l : List (List UInt8)) (c : Int) (v : Value) (W : World) (hl : TxAt W v l) (hcap : CapOk v) (hlen : l.length ≤ 8796093021952) (hsz : ∀ r ∈ l, r.length ≤ 140737488351232) (hg : GW W) :
    Calls Tryd.prog 6 #[v, .int .i64 c] W fun e W' => e = .returned (.bool true) ∧ Below W.heap.size W W' := by
  obtain ⟨i0, hi, hz0, hz1, hz2⟩ := info_parts info_intT
  have HL := Lib.hid hl
  have HCAP := Lib.hid hcap
  have GG := Lib.hid hg
  have HSZ := Lib.hid hsz
  obtain ⟨m1, m2, rfl⟩ := hl.len
  clear hl hcap hg hsz
  go_enter Tryd.func6, Tryd.ntmps6
  go_wp2_with fail
  refine (papShown _ GG.out).mono ?_
  rintro e w1 ⟨rfl, g1⟩
  have G1 := Lib.hid g1
  clear g1
  go_wp2_with fail
  go_loopw [6, 7, 8] (fun x y i wr => ∃ (k : Nat) (p : List (List UInt8)), i = .int .i64 k ∧ p = l.take k ∧ k ≤ l.length ∧ k ≤ 20 ∧ (∀ r ∈ p, r.length ≤ 65536) ∧ x = tx (Pp.frs p) ∧ Below W.heap.size W wr ∧ wr.ownsRow W.heap.size 3 1 y p.length (ints (Pp.ends p))) (fun _ _ i _ => 20 - (intOf i).toNat)
  case atStart => exact ⟨0, [], rfl, rfl, by omega, by omega, by simp, rfl, G1.out, ⟨rfl, .inl ⟨rfl, rfl⟩⟩⟩
  case round =>
    obtain ⟨k, p, rfl, hpe, hkl, hk20, hsm, rfl, hbel, hown⟩ := hrel
    have hpk : p.length = k := by rw [hpe, List.length_take]; omega
    have HPE := Lib.hid hpe
    have HP := Lib.hid hsm
    have HB := Lib.hid hbel
    have HO := Lib.hid hown
    have hsw := hbel.size
    have hfm0 := Pp.frs_max p hsm
    clear hpe hsm hbel hown
    by_cases hlt : k < l.length
    · by_cases h20 : k < 20
      · obtain ⟨r, hr⟩ : ∃ r, l[k] = r := ⟨_, rfl⟩
        have hcell : ∃ b off cap, Value.slice m1 l.length m2 = .slice (some ⟨b, off, none⟩) l.length cap ∧ W.cell? ⟨b, off + k, none⟩ = some (tx r) := by
          rcases HL.out with ⟨a', c', _, h0⟩ | ⟨b, off, cap, e, hc⟩
          · rw [h0] at hlt; simp at hlt
          · exact ⟨b, off, cap, e, by rw [hc k hlt, hr]⟩
        obtain ⟨b, off, cap, e, hce⟩ := hcell
        injection e with e1 _ e3
        subst e1 e3
        have ck := below_cell HB.out hce
        have HPN := Lib.hid (show p ++ [r] = l.take (k + 1) by rw [List.take_succ_eq_append_getElem hlt, ← HPE.out, hr])
        have hr47 : r.length ≤ 140737488351232 := HSZ.out r (by rw [← hr]; exact List.getElem_mem hlt)
        obtain ⟨x, n, hF, hx, hcase⟩ := Pp.frameR_x r
        have HF := Lib.hid (fun W hW => pframe_eq hF hr47 W hW)
        clear hF hce hr
        rcases hcase with ⟨h6, hxf, rfl⟩ | ⟨h6, hxf, rfl⟩
        · obtain ⟨s', hs'⟩ : ∃ s', Pp.frs p ++ x = s' := ⟨_, rfl⟩
          have e1 := fun W => cat_run (Pp.frs p) x (by omega) W
          have HS := Lib.hid (show Pp.frs (p ++ [r]) = s' by rw [Pp.frs_app, Pp.frs_one, ← hxf, hs'])
          rw [hs'] at e1
          have H6 := Lib.hid h6
          clear hs' hxf h6
          go_wp2_with fail
          refine (HF.out _ (GG.out.below HB.out)).mono ?_
          rintro e w3 ⟨rfl, g3⟩
          have O3 := Lib.hid (HO.out.kept (grown_of g3) (Classical.em _))
          have B3 := Lib.hid (grow_trans HB.out g3)
          have hs3 := B3.out.size
          clear g3
          go_wp2_with (at_builtin; refine wpList_append_own _ rfl _ _ 50 rfl W.heap.size 3 i0 (.int .i64 0) 1 8 Tryd.underlying50 hi hz0 hz1 hz2 rfl (by decide) _ _ _ rfl (O3.out.alloc _) ⟨w3.heap.size, 0, none⟩ 1 1 [.int .i64 (s'.length : Int)] rfl rfl ?c1 ?c2 ?c3 ?c4 ?c5 ?_)
          case c1 => exact new_cell _ _ rfl _ _
          case c2 => intro u hu; simp at hu; subst hu; rfl
          case c3 => unfold maxLen; omega
          case c4 => omega
          case c5 => simp; omega
          intro v' w4 hown4 hgrow _
          have hown5 : w4.ownsRow W.heap.size 3 1 v' (p ++ [r]).length (ints (Pp.ends (p ++ [r]))) := by
            rw [Pp.ends_snoc, HS.out, List.length_append, hpk]; simpa [ints, iv, hpk] using hown4
          have hbel2 : Below W.heap.size W w4 := (B3.out.alloc (by simpa using hs3) _).grown hgrow (by simp; omega) (fun k hk => (O3.out.lt k hk).1)
          have HO5 := Lib.hid hown5
          clear hown4 hown5 hgrow HO O3
          go_wp2
          go_roundw
          case rel => exact ⟨k + 1, p ++ [r], by go_num, HPN.out, by omega, by omega, by intro q hq; rcases List.mem_append.1 hq with hq | hq; exact HP.out q hq; rw [List.mem_singleton.1 hq]; exact H6.out, by rw [HS.out], hbel2, HO5.out⟩
          case measure => simp [intOf]; omega
        · have H6 := Lib.hid h6
          subst hxf
          clear h6
          go_wp2_with fail
          refine (HF.out _ (GG.out.below HB.out)).mono ?_
          rintro e w3 ⟨rfl, g3⟩
          have B3 := Lib.hid (grow_trans HB.out g3)
          clear g3
          go_wp2
          go_ret
          exact ⟨rfl, B3.out⟩
      · obtain rfl : k = 20 := by omega
        have hpl : p.length ≤ 20 := by omega
        by_cases hc0 : c < 0
        · have t2 : decide (c < 0) = true := decide_eq_true hc0
          clear hc0
          go_wp2
          go_ret
          exact ⟨rfl, HB.out⟩
        · have t2 : decide (c < 0) = false := decide_eq_false hc0
          by_cases hc1 : ((Pp.frs p).length : Int) < c
          · have t3 : decide (((Pp.frs p).length : Int) < c) = true := decide_eq_true hc1
            clear hc0 hc1
            go_wp2
            go_ret
            exact ⟨rfl, HB.out⟩
          · obtain ⟨n, rfl⟩ := Int.eq_ofNat_of_zero_le (show 0 ≤ c by omega)
            have hn : n ≤ (Pp.frs p).length := by omega
            obtain ⟨t, hR⟩ := Pp.rd_cut p HP.out n
            have hPle := Pp.pre_le p n
            have hiff := fun i h => Pp.pre_iff p n i h
            obtain ⟨P, hP⟩ : ∃ P, Pp.pre p n = P := ⟨_, rfl⟩
            rw [hP] at hR hPle hiff
            obtain ⟨z, hz⟩ : ∃ z, (Pp.frs (p.take P)).length = z := ⟨_, rfl⟩
            have hrl : (p.take P).length = P := by rw [List.length_take]; omega
            have hpre : p.take P = l.take P := by rw [HPE.out, List.take_take, Nat.min_eq_left (by omega)]
            have hle : P ≤ l.length := by omega
            obtain ⟨s, hs⟩ : ∃ s, Pp.frs p = s := ⟨_, rfl⟩
            obtain ⟨es, hes⟩ : ∃ es, Pp.ends p = es := ⟨_, rfl⟩
            have hel : es.length = p.length := by rw [← hes]; exact Pp.ends_len p
            have hea : ∀ i (h : i < es.length), es[i] = ((Pp.frs (p.take (i + 1))).length : Int) := by subst hes; exact fun i h => Pp.ends_at p i (by omega)
            have hez : ∀ j, P = j + 1 → ∀ h : j < es.length, es[j] = (z : Int) := by
              intro j hj h
              rw [hea j h, ← hz, hj]
            have hei : ∀ i (h : i < es.length), es[i] ≤ (n : Int) ↔ i < P := fun i h => by rw [hea i h, ← hiff i (by omega)]; omega
            have hz0 : P = 0 → z = 0 := fun h => by rw [← hz, h]; rfl
            rw [hs] at hn hR hfm0 ⊢
            have hslt : (s.take n).length ≤ 4398046511104 := by rw [List.length_take]; omega
            have HRD := Lib.hid (fun W hW => pread_eq hR hz hslt W hW)
            have HBG := Lib.hid (show (decide ((p.take P).length ≤ l.length) && (p.take P == l.take (p.take P).length)) = true by
              rw [hrl, ← hpre]; simp; exact hle)
            have HRL := Lib.hid hrl
            have HEI := Lib.hid hei
            have HEZ := Lib.hid hez
            have hO := HO.out
            rw [hes] at hO
            have hcells := flat_ints (FlatAt.own hO) (Below.refl _ _)
            have hown : ∃ a cap, u7 = .slice a p.length cap := by
              rcases hcells with ⟨he, a0, cap0, rfl⟩ | ⟨h0, b, off, cap, rfl, hcell⟩
              · exact ⟨a0, cap0, by rw [← hel, he]; rfl⟩
              · exact ⟨_, _, by rw [hel]⟩
            obtain ⟨ya, yc, rfl⟩ := hown
            have s1 : (0 : Int) ≤ (n : Int) := by omega
            have s2 : (n : Int) ≤ (s.length : Int) := by omega
            have t3 : decide (s.length < n) = false := decide_eq_false (by omega)
            have HCE := Lib.hid hcells
            have HEL := Lib.hid hel
            clear hR hP hz hpre hez hrl hiff hc0 hc1 hslt hs hn hO hcells hes hei hea hel
            go_wp2_with fail
            go_loopw [11, 12] (fun a b wr2 => ∃ j : Nat, b = .int .i64 j ∧ j ≤ p.length ∧ (∃ q : Nat, a = .int .i64 q ∧ q = min j P) ∧ wr2 = wr) (fun _ b _ => p.length - (intOf b).toNat)
            case atStart => exact ⟨0, rfl, by omega, ⟨0, rfl, by omega⟩, rfl⟩
            case round =>
              obtain ⟨j, rfl, hj, ⟨q, rfl, hq⟩, rfl⟩ := hrel
              by_cases hjl : j < p.length
              · have hje : j < es.length := by rw [HEL.out]; exact hjl
                have hcc : ∃ b off cap, Value.slice ya p.length yc = .slice (some ⟨b, off, none⟩) p.length cap ∧ wr.cell? ⟨b, off + j, none⟩ = some (.int .i64 es[j]) := by
                  rcases HCE.out with ⟨he, _⟩ | ⟨h0, b, off, cap, e, hcell⟩
                  · rw [he] at hje; simp at hje
                  · exact ⟨b, off, cap, by rw [e, HEL.out], hcell j hje⟩
                obtain ⟨b, off, cap, e, hce⟩ := hcc
                injection e with e1 _ e3
                have hei := HEI.out j hje
                obtain ⟨ej, hej⟩ : ∃ ej, es[j] = ej := ⟨_, rfl⟩
                rw [hej] at hce hei
                by_cases hjp : j < P
                · have t5 : decide (ej ≤ (n : Int)) = true := decide_eq_true (hei.2 hjp)
                  have hq1 : q = j := by omega
                  clear hq
                  subst hq1 e1 e3
                  clear hei hej
                  go_wp2
                  go_roundw
                  case rel => exact ⟨q + 1, by go_num, by omega, ⟨q + 1, by go_num, by omega⟩, by trivial⟩
                  case measure => simp [intOf]; omega
                · have t5 : decide (ej ≤ (n : Int)) = false := decide_eq_false (fun h => hjp (hei.1 h))
                  have hq1 : q = P := by omega
                  clear hq
                  subst hq1 e1 e3
                  clear hei hej
                  go_wp2
                  go_roundw
                  case rel => exact ⟨j + 1, by go_num, by omega, ⟨q, rfl, by omega⟩, by trivial⟩
                  case measure => simp [intOf]; omega
              · have hq1 : q = P := by omega
                clear hq
                subst hq1
                cases q with
                | zero =>
                  have z0 := hz0 rfl
                  subst z0
                  go_wp2_with fail
                  simp only [ba_take]
                  refine (HRD.out _ (GG.out.below HB.out)).mono ?_
                  rintro e w8 ⟨vr, rfl, hvr, g8⟩
                  have B8 := Lib.hid (grow_trans HB.out g8)
                  obtain ⟨m5, m6, rfl⟩ := hvr.len
                  have HVR := Lib.hid hvr
                  rw [HRL.out] at HVR ⊢
                  clear hvr g8
                  go_wp2_with fail
                  refine (pbegins_eq HBG.out _ HVR.out (HL.out.below B8.out) HCAP.out (by rw [HRL.out]; omega)).mono ?_
                  rintro e w9 ⟨rfl, qq, rfl⟩
                  go_wp2
                  go_ret
                  exact ⟨rfl, below_drewN B8.out _⟩
                | succ q =>
                  have hqe : q < es.length := by rw [HEL.out]; omega
                  have hcc : ∃ b off cap, Value.slice ya p.length yc = .slice (some ⟨b, off, none⟩) p.length cap ∧ wr.cell? ⟨b, off + q, none⟩ = some (.int .i64 z) := by
                    rcases HCE.out with ⟨he, _⟩ | ⟨h0, b, off, cap, e, hcell⟩
                    · rw [he] at hqe; simp at hqe
                    · exact ⟨b, off, cap, by rw [e, HEL.out], by rw [hcell q hqe, HEZ.out q rfl hqe]; rfl⟩
                  obtain ⟨b, off, cap, e, hce⟩ := hcc
                  injection e with e1 _ e3
                  subst e1 e3
                  go_wp2_with fail
                  simp only [ba_take]
                  refine (HRD.out _ (GG.out.below HB.out)).mono ?_
                  rintro e w8 ⟨vr, rfl, hvr, g8⟩
                  have B8 := Lib.hid (grow_trans HB.out g8)
                  obtain ⟨m5, m6, rfl⟩ := hvr.len
                  have HVR := Lib.hid hvr
                  rw [HRL.out] at HVR ⊢
                  have hcq := below_cell g8 hce
                  clear hvr g8
                  go_wp2_with fail
                  refine (pbegins_eq HBG.out _ HVR.out (HL.out.below B8.out) HCAP.out (by rw [HRL.out]; omega)).mono ?_
                  rintro e w9 ⟨rfl, qq, rfl⟩
                  go_wp2
                  go_ret
                  exact ⟨rfl, below_drewN B8.out _⟩
    · obtain rfl : k = l.length := by omega
      have hpl : p.length ≤ 20 := by omega
      by_cases hc0 : c < 0
      · have t2 : decide (c < 0) = true := decide_eq_true hc0
        clear hc0
        go_wp2
        go_ret
        exact ⟨rfl, HB.out⟩
      · have t2 : decide (c < 0) = false := decide_eq_false hc0
        by_cases hc1 : ((Pp.frs p).length : Int) < c
        · have t3 : decide (((Pp.frs p).length : Int) < c) = true := decide_eq_true hc1
          clear hc0 hc1
          go_wp2
          go_ret
          exact ⟨rfl, HB.out⟩
        · obtain ⟨n, rfl⟩ := Int.eq_ofNat_of_zero_le (show 0 ≤ c by omega)
          have hn : n ≤ (Pp.frs p).length := by omega
          obtain ⟨t, hR⟩ := Pp.rd_cut p HP.out n
          have hPle := Pp.pre_le p n
          have hiff := fun i h => Pp.pre_iff p n i h
          obtain ⟨P, hP⟩ : ∃ P, Pp.pre p n = P := ⟨_, rfl⟩
          rw [hP] at hR hPle hiff
          obtain ⟨z, hz⟩ : ∃ z, (Pp.frs (p.take P)).length = z := ⟨_, rfl⟩
          have hrl : (p.take P).length = P := by rw [List.length_take]; omega
          have hpre : p.take P = l.take P := by rw [HPE.out, List.take_take, Nat.min_eq_left (by omega)]
          have hle : P ≤ l.length := by omega
          obtain ⟨s, hs⟩ : ∃ s, Pp.frs p = s := ⟨_, rfl⟩
          obtain ⟨es, hes⟩ : ∃ es, Pp.ends p = es := ⟨_, rfl⟩
          have hel : es.length = p.length := by rw [← hes]; exact Pp.ends_len p
          have hea : ∀ i (h : i < es.length), es[i] = ((Pp.frs (p.take (i + 1))).length : Int) := by subst hes; exact fun i h => Pp.ends_at p i (by omega)
          have hez : ∀ j, P = j + 1 → ∀ h : j < es.length, es[j] = (z : Int) := by
            intro j hj h
            rw [hea j h, ← hz, hj]
          have hei : ∀ i (h : i < es.length), es[i] ≤ (n : Int) ↔ i < P := fun i h => by rw [hea i h, ← hiff i (by omega)]; omega
          have hz0 : P = 0 → z = 0 := fun h => by rw [← hz, h]; rfl
          rw [hs] at hn hR hfm0 ⊢
          have hslt : (s.take n).length ≤ 4398046511104 := by rw [List.length_take]; omega
          have HRD := Lib.hid (fun W hW => pread_eq hR hz hslt W hW)
          have HBG := Lib.hid (show (decide ((p.take P).length ≤ l.length) && (p.take P == l.take (p.take P).length)) = true by
            rw [hrl, ← hpre]; simp; exact hle)
          have HRL := Lib.hid hrl
          have HEI := Lib.hid hei
          have HEZ := Lib.hid hez
          have hO := HO.out
          rw [hes] at hO
          have hcells := flat_ints (FlatAt.own hO) (Below.refl _ _)
          have hown : ∃ a cap, u7 = .slice a p.length cap := by
            rcases hcells with ⟨he, a0, cap0, rfl⟩ | ⟨h0, b, off, cap, rfl, hcell⟩
            · exact ⟨a0, cap0, by rw [← hel, he]; rfl⟩
            · exact ⟨_, _, by rw [hel]⟩
          obtain ⟨ya, yc, rfl⟩ := hown
          have s1 : (0 : Int) ≤ (n : Int) := by omega
          have s2 : (n : Int) ≤ (s.length : Int) := by omega
          have t3 : decide (s.length < n) = false := decide_eq_false (by omega)
          have HCE := Lib.hid hcells
          have HEL := Lib.hid hel
          clear hR hP hz hpre hez hrl hiff hc0 hc1 hslt hs hn hO hcells hes hei hea hel
          go_wp2_with fail
          go_loopw [11, 12] (fun a b wr2 => ∃ j : Nat, b = .int .i64 j ∧ j ≤ p.length ∧ (∃ q : Nat, a = .int .i64 q ∧ q = min j P) ∧ wr2 = wr) (fun _ b _ => p.length - (intOf b).toNat)
          case atStart => exact ⟨0, rfl, by omega, ⟨0, rfl, by omega⟩, rfl⟩
          case round =>
            obtain ⟨j, rfl, hj, ⟨q, rfl, hq⟩, rfl⟩ := hrel
            by_cases hjl : j < p.length
            · have hje : j < es.length := by rw [HEL.out]; exact hjl
              have hcc : ∃ b off cap, Value.slice ya p.length yc = .slice (some ⟨b, off, none⟩) p.length cap ∧ wr.cell? ⟨b, off + j, none⟩ = some (.int .i64 es[j]) := by
                rcases HCE.out with ⟨he, _⟩ | ⟨h0, b, off, cap, e, hcell⟩
                · rw [he] at hje; simp at hje
                · exact ⟨b, off, cap, by rw [e, HEL.out], hcell j hje⟩
              obtain ⟨b, off, cap, e, hce⟩ := hcc
              injection e with e1 _ e3
              have hei := HEI.out j hje
              obtain ⟨ej, hej⟩ : ∃ ej, es[j] = ej := ⟨_, rfl⟩
              rw [hej] at hce hei
              by_cases hjp : j < P
              · have t5 : decide (ej ≤ (n : Int)) = true := decide_eq_true (hei.2 hjp)
                have hq1 : q = j := by omega
                clear hq
                subst hq1 e1 e3
                clear hei hej
                go_wp2
                go_roundw
                case rel => exact ⟨q + 1, by go_num, by omega, ⟨q + 1, by go_num, by omega⟩, by trivial⟩
                case measure => simp [intOf]; omega
              · have t5 : decide (ej ≤ (n : Int)) = false := decide_eq_false (fun h => hjp (hei.1 h))
                have hq1 : q = P := by omega
                clear hq
                subst hq1 e1 e3
                clear hei hej
                go_wp2
                go_roundw
                case rel => exact ⟨j + 1, by go_num, by omega, ⟨q, rfl, by omega⟩, by trivial⟩
                case measure => simp [intOf]; omega
            · have hq1 : q = P := by omega
              clear hq
              subst hq1
              cases q with
              | zero =>
                have z0 := hz0 rfl
                subst z0
                go_wp2_with fail
                simp only [ba_take]
                refine (HRD.out _ (GG.out.below HB.out)).mono ?_
                rintro e w8 ⟨vr, rfl, hvr, g8⟩
                have B8 := Lib.hid (grow_trans HB.out g8)
                obtain ⟨m5, m6, rfl⟩ := hvr.len
                have HVR := Lib.hid hvr
                rw [HRL.out] at HVR ⊢
                clear hvr g8
                go_wp2_with fail
                refine (pbegins_eq HBG.out _ HVR.out (HL.out.below B8.out) HCAP.out (by rw [HRL.out]; omega)).mono ?_
                rintro e w9 ⟨rfl, qq, rfl⟩
                go_wp2
                go_ret
                exact ⟨rfl, below_drewN B8.out _⟩
              | succ q =>
                have hqe : q < es.length := by rw [HEL.out]; omega
                have hcc : ∃ b off cap, Value.slice ya p.length yc = .slice (some ⟨b, off, none⟩) p.length cap ∧ wr.cell? ⟨b, off + q, none⟩ = some (.int .i64 z) := by
                  rcases HCE.out with ⟨he, _⟩ | ⟨h0, b, off, cap, e, hcell⟩
                  · rw [he] at hqe; simp at hqe
                  · exact ⟨b, off, cap, by rw [e, HEL.out], by rw [hcell q hqe, HEZ.out q rfl hqe]; rfl⟩
                obtain ⟨b, off, cap, e, hce⟩ := hcc
                injection e with e1 _ e3
                subst e1 e3
                go_wp2_with fail
                simp only [ba_take]
                refine (HRD.out _ (GG.out.below HB.out)).mono ?_
                rintro e w8 ⟨vr, rfl, hvr, g8⟩
                have B8 := Lib.hid (grow_trans HB.out g8)
                obtain ⟨m5, m6, rfl⟩ := hvr.len
                have HVR := Lib.hid hvr
                rw [HRL.out] at HVR ⊢
                have hcq := below_cell g8 hce
                clear hvr g8
                go_wp2_with fail
                refine (pbegins_eq HBG.out _ HVR.out (HL.out.below B8.out) HCAP.out (by rw [HRL.out]; omega)).mono ?_
                rintro e w9 ⟨rfl, qq, rfl⟩
                go_wp2
                go_ret
                exact ⟨rfl, below_drewN B8.out _⟩

theorem paperTorn_walk {H : Type} (enc : TypeId × Value → H) (W : World) (base : Nat) (v0 : Value) (v1 : Value) (d0 : DataW H) (d1 : DataW H) (p0 : List MemPlace) (p1 : List MemPlace)
    (h0 : DataW.Trod enc Tryd.prog W 0 (fun _ => true) true 28 v0 d0 p0) (o0 : Value.okWide Tryd.prog W .any base 28 v0)
    (h1 : DataW.Trod enc Tryd.prog W 0 (fun _ => true) true 3 v1 d1 p1) (o1 : Value.okWide Tryd.prog W .any base 3 v1)
    (hsz : (DataW.weightsEach Tryd.prog [28, 3] [d0, d1]).all (· ≤ reachBytes) = true) (hg : GW W) :
    Calls Tryd.prog 6 #[v0, v1] W fun e W' => e = .returned (.bool true) ∧ Below W.heap.size W W' := by
  obtain ⟨c, _, _, rfl, rfl, rfl⟩ := open_i64 Tryd.underlying3 o1 h1
  obtain ⟨m, hm⟩ := h0
  have hc : v0.cells.toList = [v0] := by
    obtain ⟨a, n, cp, rfl⟩ := okWide_slice Tryd.underlying28 o0
    rfl
  rw [hc] at hm
  obtain ⟨l, hl, hn, hs⟩ := trod_txsR Tryd.underlying28 hm (sized_at hsz (j := 0) rfl rfl)
  exact paperTorn_core l c v0 W hl (trod_cap Tryd.underlying28 hm) hn hs hg
end Go.Proofs.YtkkiedmcpibnaaaDoor
