/- Chapter 3 in the model: elimination. -/
import Derived.Test.YtbnobkojkfmccaaWalk3c
import Derived.Test.YtbnobkojkfmccaaMath3
import Derived.Deep.RegionHeld3
import Derived.Deep.RegionLaw
import Derived.Deep.Cut
namespace Go.Proofs.Ytbnobkojkfmccaa
open Go.RowKit
set_option maxRecDepth 100000

theorem Shp.aug {d : List (List Int)} {r : List Int} {n m : Nat} (h : Mat d m) (hn : d.length = n) (hx : Nums r) : Shp (augR d r n) n (m + 1) := by
  refine ⟨by simp [augR], fun i hi => ?_⟩
  have e : (augR d r n).getD i [] = d.getD i [] ++ [r.getD i 0] := by simp [augR, hi]
  have hl := h.len i (by omega)
  rw [e]
  refine ⟨by rw [List.length_append, hl]; rfl, fun j => ?_⟩
  rw [getD_snoc]
  split
  · exact h.nums i (by omega) j
  · split
    · exact hx i
    · omega

set_option maxRecDepth 100000 in
set_option maxHeartbeats 4000000 in
theorem s_l3Reduced (A A' : Option Addr) (n c c' m : Nat) (vs : List Value) (d : List (List Int)) (r : List Int) (w : World) (h : RdR w w.heap.size A n vs d) (h' : Rd w w.heap.size 1 A' n (cI r)) (hM : Mat d m) (hx : Nums r) :
    Calls Try.prog 58 #[.slice A n c, .slice A' n c'] w fun e w' => ∃ (Ar : Option Addr) (cr : Nat) (tv : Value) (mid : Nat) (ws : List Value), e = .returned (.tuple #[.slice Ar n cr, tv]) ∧ w.heap.size ≤ mid ∧ mid ≤ w'.heap.size ∧ Below w.heap.size w w' ∧ OwR w' w.heap.size mid Ar n cr ws (redC (augR d r n) n (m + 1) m).1 ∧ OwIntS w' mid w'.heap.size tv (redC (augR d r n) n (m + 1) m).2 := by
  have hlen := Lib.hid h.2.1
  have hlx := Lib.hid h'.len
  have H := Lib.hid h
  have H' := Lib.hid h'
  have n8 : n ≤ 8 := by have := hM.rows.2; have := h.2.1; omega
  have m8 : m ≤ 8 := hM.cols.2
  have HM := Lib.hid hM
  have HX := Lib.hid hx
  clear h h' hM hx
  have HOW0 : Hid ((w.alloc (.cells #[] 27)).ownsRow w.heap.size 27 1 (.slice (some ⟨w.heap.size, 0, none⟩) 0 0) 0 []) := Lib.hid (own_empty _ _ _)
  have HOW : Hid ((w.alloc (.cells #[] 27)).ownsRow w.heap.size 27 1 (.slice (some ⟨w.heap.size, 0, none⟩) 0 0) 0 [] ∧ OwR (w.alloc (.cells #[] 27)) w.heap.size (w.alloc (.cells #[] 27)).heap.size (some ⟨w.heap.size, 0, none⟩) 0 0 [] (augR d r 0)) := Lib.hid ⟨HOW0.out, ⟨rfl, Nat.le_refl _, .inl rfl⟩, rfl, fun i hi => absurd hi (by omega), fun i j hi => absurd hi (by omega)⟩
  have HB0 : Hid (Below w.heap.size w (w.alloc (.cells #[] 27))) := Lib.hid ((Below.refl _ _).alloc (Nat.le_refl _) _)
  clear HOW0
  go_enter Try.func58, Try.ntmps58
  go_wp2
  go_loopw [6, 7] (fun o i wr => ∃ (k : Nat) (Ao : Option Addr) (co : Nat) (ws : List Value), k ≤ n ∧ i = .int .i64 k ∧ o = .slice Ao k co ∧ Hid (wr.ownsRow w.heap.size 27 1 (.slice Ao k co) k ws ∧ OwR wr w.heap.size wr.heap.size Ao k co ws (augR d r k)) ∧ Hid (Below w.heap.size w wr)) (fun _ i _ => n - (intOf i).toNat)
  case atStart => exact ⟨0, _, _, [], Nat.zero_le _, rfl, rfl, HOW, HB0⟩
  case round =>
    clear HOW HB0
    obtain ⟨i, Ao, co, ws, hi, rfl, rfl, HO, HB⟩ := hrel
    by_cases hlt : i < n
    · obtain ⟨a, Ai, ni, ci, rfl, hab, hci0, hri, _, hmi⟩ := H.out.row hlt
      obtain rfl : ni = m := by have := HM.out.len i (by have := hlen.out; omega); omega
      have hci := (HB.out.cell (p := a.add i) (by rw [add_block]; exact hab)).trans hci0
      have HRI := Lib.hid (RdIntS.below hri HB.out)
      obtain ⟨ax, q, rfl, hax, hcq0, HQ⟩ := H'.out.intAt hlt
      have hcq := (HB.out.cell (p := ax.add i) (by rw [add_block]; exact hax)).trans hcq0
      have HRr : Hid (Rd wr w.heap.size 1 Ai ni (cI (d.getD i []))) := Lib.hid (by
        obtain ⟨A2, n2, c2, e, _, r⟩ := HRI.out
        injection e with e1 e2 e3; subst e1; subst e2; subst e3
        exact r)
      have hz := HB.out.size
      have HZ := Lib.hid hz
      have m9 : ni ≤ 8 := m8
      have HC0 := Lib.hid hci0
      have HQ0 := Lib.hid hcq0
      clear hci0 hri hmi hcq0 HRI hz m8
      have i0 : (0 : Int) ≤ (i : Int) := by omega
      have i1 : (i : Int) < (n : Int) := by omega
      go_wp2
      have HAB : Hid ((a.add i).block < wr.heap.size ∧ (ax.add i).block < wr.heap.size) := Lib.hid ⟨by rw [add_block]; exact Nat.lt_of_lt_of_le hab HZ.out, by rw [add_block]; exact Nat.lt_of_lt_of_le hax HZ.out⟩
      go_region_held3 (fun w' => w'.cell? (a.add i) = some (.slice Ai ni ci) ∧ w'.cell? (ax.add i) = some (.int .i64 q)) (go_keep) (first
        | (refine step_lit rfl (.tmp 26) (.tmp 30) rfl (wr := wr) rfl rfl ?hge ?hlit HRr.out HZ.out ?hbel (by omega) ?_
           case hge => first | exact Nat.le_refl _ | exact Nat.le_succ _ | (simp; done)
           case hlit => first | exact heap_alloc_new _ _ | exact (Below.heap_alloc _ _ _ (by simp)).trans (heap_alloc_new _ _) | exact hid_size (by simp) (heap_alloc_new _ _)
           case hbel => first | exact below_drew ((Below.refl _ _).alloc (Nat.le_refl _) _) | exact below_drew (((Below.refl _ _).alloc (Nat.le_refl _) _).alloc (by simp) _)
           intro v1 w1 h1 h2 h3
           have hci1 := (h2.out.cell HAB.out.1).trans hci
           have hcq1 := (h2.out.cell HAB.out.2).trans hcq
           first
            | (have HL := Lib.hid (h3.out _ _ (heap_alloc_new _ _)); clear h3)
            | (have HL := Lib.hid (h3.out _ _ ((Below.heap_alloc _ _ _ (by simp)).trans (heap_alloc_new _ _))); clear h3)
            | clear h3)
        | (refine step_lit2 (q := q) rfl (.tmp 31) (.tmp 36) rfl rfl rfl h1.out h2.out ?hW ?hl (by omega) ?_
           case hW => first | exact (Below.refl _ _).alloc (Nat.le_refl _) _ | exact Below.refl _ _
           case hl => first | exact heap_alloc_new _ _ | exact HL.out | exact hid_size (by simp) HL.out
           clear h1 h2 hci1 hcq1
           intro A2 c2 w2 h4 h5
           have hci1 := (h5.out.cell HAB.out.1).trans hci
           have hcq1 := (h5.out.cell HAB.out.2).trans hcq)
        | (refine step_lit3 rfl (.tmp 25) (.tmp 38) rfl rfl rfl HO.out HB.out h4.out h5.out ?hW ?hl (by omega) (by omega) ?_
           case hW => exact (Below.refl _ _).alloc (Nat.le_refl _) _
           case hl => exact heap_alloc_new _ _
           intro A3 c3 w3 h6 h7
           have hci1 := (h7.out.cell (p := a.add i) (by rw [add_block]; exact hab)).trans HC0.out
           have hcq1 := (h7.out.cell (p := ax.add i) (by rw [add_block]; exact hax)).trans HQ0.out
           clear h4 h5))
      all_goals (
        have HF : Hid (w3.ownsRow w.heap.size 27 1 (.slice A3 (i + 1) c3) (i + 1) (ws ++ [.slice A2 (ni + 1) c2]) ∧ OwR w3 w.heap.size w3.heap.size A3 (i + 1) c3 (ws ++ [.slice A2 (ni + 1) c2]) (augR d r (i + 1))) := Lib.hid (by
          rw [augR_succ, ← HQ.out]; exact h6.out)
        clear h6 hci1 hcq1
        go_wp2
        go_roundw
        case rel => exact ⟨i + 1, A3, c3, _, by omega, by go_num, rfl, HF, h7⟩
        case measure => simp [intOf] <;> omega)
    · obtain rfl : n = i := by omega
      have hz := HB.out.size
      have HSH := Lib.hid (Shp.aug HM.out hlen.out HX.out)
      have n1 : 1 ≤ n := by have := HM.out.rows.1; have := hlen.out; omega
      have m1 : 1 ≤ m := HM.out.cols.1
      obtain ⟨wo, rfl⟩ : ∃ wo : World, wo = wr := ⟨_, rfl⟩
      obtain ⟨mid, hmid⟩ : ∃ mid, wo.heap.size = mid := ⟨_, rfl⟩
      have HMZ := Lib.hid (show w.heap.size ≤ mid by omega)
      have HO1 : Hid (OwR (wo.alloc (.cells #[] 3)) w.heap.size mid Ao n co ws (augR d r n)) := Lib.hid (by
        have h2 := HO.out.2
        have hb : Below mid wo (wo.alloc (.cells #[] 3)) := (Below.refl _ _).alloc (by omega) _
        rw [hmid] at h2
        exact h2.below hb (Nat.le_refl _))
      have HT1 : Hid ((wo.alloc (.cells #[] 3)).ownsRow mid 3 1 (.slice (some ⟨mid, 0, none⟩) 0 0) 0 (cI [])) := Lib.hid (by
        rw [← hmid]; exact own_empty _ _ _)
      have HB1 : Hid (Below w.heap.size w (wo.alloc (.cells #[] 3))) := Lib.hid (HB.out.alloc (by omega) _)
      have HZ1 : Hid (mid ≤ (wo.alloc (.cells #[] 3)).heap.size) := Lib.hid (by simp; omega)
      clear HO HB HX
      obtain ⟨g0, hg0⟩ : ∃ g0, Ao = some ⟨g0, 0, none⟩ := by
        obtain ⟨g, _, e, _⟩ := HO1.out.1.lt (by omega)
        exact ⟨g, e⟩
      subst hg0
      obtain ⟨a, A0, nm, c0, rfl, hab, hc00, hr0, _, hm0⟩ := H.out.row (show 0 < n by omega)
      have HC0 : Hid (w.cell? a = some (.slice A0 nm c0)) := Lib.hid hc00
      obtain rfl : nm = m := by have := HM.out.len 0 (by have := hlen.out; omega); omega
      clear hc00 hr0 hm0
      go_wp2
      go_loopw [8, 9, 10, 11, 12, 13, 14, 15, 16, 17] (fun tk cv _ _ _ _ _ _ _ _ wr => ∃ (cc : Nat) (D : List (List Int)) (T : List Int) (At : Option Addr) (kt ct : Nat) (ws' : List Value), cc ≤ nm ∧ cv = .int .i64 cc ∧ tk = .slice At kt ct ∧ Hid (redC (augR d r n) n (nm + 1) cc = (D, T)) ∧ Hid (T.length = kt) ∧ kt ≤ n ∧ Hid (Shp D n (nm + 1)) ∧ Hid (OwR wr w.heap.size mid (some ⟨g0, 0, none⟩) n co ws' D) ∧ Hid (wr.ownsRow mid 3 1 (.slice At kt ct) kt (cI T)) ∧ Hid (Below w.heap.size w wr) ∧ Hid (mid ≤ wr.heap.size)) (fun _ cv _ _ _ _ _ _ _ _ _ => nm - (intOf cv).toNat)
      case atStart =>
        exact ⟨0, _, [], _, 0, 0, _, Nat.zero_le _, rfl, rfl, Lib.hid rfl, Lib.hid rfl, Nat.zero_le _, HSH, HO1, HT1, HB1, HZ1⟩
      case round =>
        clear HO1 HT1 HB1 HZ1 HSH hz hmid
        obtain ⟨cc, D, T, At, kt, ct, ws', hcc, rfl, rfl, HR, HTL, hkt, HSH, HO, HT, HB, HZ⟩ := hrel
        have hc0 := (HB.out.cell (p := a) hab).trans HC0.out
        by_cases hlt2 : cc < nm
        · go_wp2
          obtain ⟨wq, rfl⟩ : ∃ wq : World, wq = wr := ⟨_, rfl⟩
          have HP : Hid (∃ P, P = pivAt D cc n (n - kt) kt) := Lib.hid ⟨_, rfl⟩
          go_loopw [10] (fun av wr => ∃ p : Nat, kt ≤ p ∧ p ≤ n ∧ av = .int .i64 p ∧ Hid (pivAt D cc n (n - p) p = pivAt D cc n (n - kt) kt) ∧ Hid (Still wq wr)) (fun av _ => n - (intOf av).toNat)
          case atStart => exact ⟨kt, Nat.le_refl _, hkt, rfl, Lib.hid rfl, Lib.hid (Still.refl _)⟩
          case round =>
            clear hc0
            obtain ⟨p, hp0, hp1, rfl, HPV, HW⟩ := hrel
            by_cases hp : p < n
            · obtain ⟨g, gi, ci, hg, hgl, hgh, hgil, hgih, hcr0, hv, how⟩ := HO.out.at2 hp (HSH.out.2 p hp).1 (Nat.succ_pos _)
              obtain rfl : g0 = g := by injection hg with hg; injection hg
              obtain ⟨z, hcz0, HQ⟩ := how.intAt (show cc < nm + 1 by omega)
              have hcr := (HW.out.cell ⟨g0, p, none⟩).trans hcr0
              have hcz := (HW.out.cell ⟨gi, cc, none⟩).trans hcz0
              have HHZ := Lib.hid hcz0
              have HHR := Lib.hid hcr0
              have HV := Lib.hid hv
              have HOW := Lib.hid how
              have HG := Lib.hid (And.intro hgl (And.intro hgh (And.intro hgil hgih)))
              clear hcz0 hcr0 hv how hg hgl hgh hgil hgih
              have i0 : (0 : Int) ≤ (p : Int) := by omega
              have i1 : (p : Int) < (n : Int) := by omega
              have i2 : (0 : Int) ≤ (cc : Int) := by omega
              have i3 : (cc : Int) < ((nm + 1 : Nat) : Int) := by omega
              by_cases hz0 : z = 0
              · subst hz0
                have HPV2 : Hid (pivAt D cc n (n - (p + 1)) (p + 1) = pivAt D cc n (n - kt) kt) := Lib.hid (by
                  rw [← HPV.out, show n - p = (n - (p + 1)) + 1 by omega, pivAt, if_pos hp, if_pos HQ.out.symm])
                go_wp2
                go_roundw
                case rel => exact ⟨p + 1, by omega, by omega, by go_num, HPV2, HW⟩
                case measure => simp [intOf] <;> omega
              · have hzb : (z == 0) = false := by simp [hz0]
                have HP2 : Hid (pivAt D cc n (n - kt) kt = p) := Lib.hid (by
                  rw [← HPV.out, show n - p = (n - (p + 1)) + 1 by omega, pivAt, if_pos hp, if_neg (fun e => hz0 (HQ.out.trans e))])
                have hkn : kt < n := by omega
                obtain ⟨g, gk, ck, hg, _, _, hgkl, hgkh, hck0, hvk, howk⟩ := HO.out.at2 hkn (HSH.out.2 kt hkn).1 (Nat.succ_pos _)
                obtain rfl : g0 = g := by injection hg with hg; injection hg
                have hck := (HW.out.cell ⟨g0, kt, none⟩).trans hck0
                have HVK := Lib.hid hvk
                have hfp : wr.frozen? ⟨g0, p, none⟩ = false := (HO.out.still HW.out).1.free (by omega) p
                have hfk : wr.frozen? ⟨g0, kt, none⟩ = false := (HO.out.still HW.out).1.free (by omega) kt
                have HOr : Hid (OwR wr w.heap.size mid (some ⟨g0, 0, none⟩) n co ws' D) := Lib.hid (HO.out.still HW.out)
                have HOs := Lib.hid (HOr.out.1.set p (.slice (some ⟨gk, 0, none⟩) (nm + 1) ck))
                have hfk2 : (wr.setCell ⟨g0, p, none⟩ (.slice (some ⟨gk, 0, none⟩) (nm + 1) ck)).frozen? ⟨g0, kt, none⟩ = false := HOs.out.free (by omega) kt
                obtain ⟨uk, huk⟩ : ∃ uk, (wr.setCell ⟨g0, p, none⟩ (.slice (some ⟨gk, 0, none⟩) (nm + 1) ck)).cell? ⟨g0, kt, none⟩ = some uk := by
                  have hl : (ws'.set p (.slice (some ⟨gk, 0, none⟩) (nm + 1) ck)).length = n := by have := HOs.out.1; omega
                  exact ⟨_, HOs.out.cellAt (getD_get (by omega))⟩
                have HW2 : Hid (OwR ((wr.setCell ⟨g0, p, none⟩ (.slice (some ⟨gk, 0, none⟩) (nm + 1) ck)).setCell ⟨g0, kt, none⟩ (.slice (some ⟨gi, 0, none⟩) (nm + 1) ci)) w.heap.size mid (some ⟨g0, 0, none⟩) n co (swapR undef ws' p kt) (swapR [] D p kt)) := Lib.hid (by
                  have hs := HOs.out.set kt (.slice (some ⟨gi, 0, none⟩) (nm + 1) ci)
                  refine HOr.out.swap (by rw [HW.out.sz]; exact HZ.out) hp hkn rfl (((Kept.refl g0 (g0 + 1) wr).setCell (p := ⟨g0, p, none⟩) (Nat.le_refl _) (Nat.lt_succ_self _) _).setCell (p := ⟨g0, kt, none⟩) (Nat.le_refl _) (Nat.lt_succ_self _) _) ?_
                  unfold swapR
                  rw [HVK.out, HV.out]
                  exact hs)
                clear hck0 hvk howk hg hgkl hgkh
                have j0 : (0 : Int) ≤ (kt : Int) := by omega
                have j1 : (kt : Int) < (n : Int) := by omega
                go_upto_region 18 with (fail)
                have HSz : Hid (mid ≤ wr.heap.size) := Lib.hid (by rw [HW.out.sz]; exact HZ.out)
                have HT0 : Hid (wr.ownsRow mid 3 1 (.slice At kt ct) kt (cI T)) := Lib.hid (by obtain ⟨q, hq⟩ := HW.out; rw [hq]; exact HT.out)
                have HB0 : Hid (Below w.heap.size w wr) := Lib.hid (HB.out.trans (HW.out.below _))
                have HT2 : Hid (((wr.setCell ⟨g0, p, none⟩ (.slice (some ⟨gk, 0, none⟩) (nm + 1) ck)).setCell ⟨g0, kt, none⟩ (.slice (some ⟨gi, 0, none⟩) (nm + 1) ci)).ownsRow mid 3 1 (.slice At kt ct) kt (cI T)) := Lib.hid (own_kept HT0.out (((Kept.refl g0 (g0 + 1) wr).setCell (p := ⟨g0, p, none⟩) (Nat.le_refl _) (Nat.lt_succ_self _) _).setCell (p := ⟨g0, kt, none⟩) (Nat.le_refl _) (Nat.lt_succ_self _) _) HG.out.2.1)
                have HB2 : Hid (Below w.heap.size w ((wr.setCell ⟨g0, p, none⟩ (.slice (some ⟨gk, 0, none⟩) (nm + 1) ck)).setCell ⟨g0, kt, none⟩ (.slice (some ⟨gi, 0, none⟩) (nm + 1) ci))) := Lib.hid ((HB0.out.setCell (p := ⟨g0, p, none⟩) HG.out.1 _).setCell (p := ⟨g0, kt, none⟩) HG.out.1 _)
                have HZ2 : Hid (mid ≤ ((wr.setCell ⟨g0, p, none⟩ (.slice (some ⟨gk, 0, none⟩) (nm + 1) ck)).setCell ⟨g0, kt, none⟩ (.slice (some ⟨gi, 0, none⟩) (nm + 1) ci)).heap.size) := Lib.hid (by rw [World.size_setCell, World.size_setCell]; exact HSz.out)
                have HSH1 := Lib.hid (HSH.out.swap hp hkn)
                have HV1 : Hid ((swapR undef ws' p kt).getD kt undef = .slice (some ⟨gi, 0, none⟩) (nm + 1) ci) := Lib.hid (by
                  rw [swapR_get _ _ _ _ _ (by have := HOr.out.1.1; omega) (by have := HOr.out.1.1; omega), if_pos rfl]; exact HV.out)
                have HX1 : Hid ((swapR [] D p kt).getD kt [] = D.getD p []) := Lib.hid (by
                  rw [swapR_get _ _ _ _ _ (by have := HSH.out.1; omega) (by have := HSH.out.1; omega), if_pos rfl])
                have hzb := (HSH.out.2 p hp).2 cc
                rw [← HQ.out] at hzb
                have z1 : 1 ≤ z := by omega
                have z2 : z ≤ 112 := hzb.2
                clear hzb
                generalize hw2 : ((wr.setCell ⟨g0, p, none⟩ (.slice (some ⟨gk, 0, none⟩) (nm + 1) ck)).setCell ⟨g0, kt, none⟩ (.slice (some ⟨gi, 0, none⟩) (nm + 1) ci)) = W2 at HW2 HT2 HB2 HZ2 ⊢
                clear hw2 HOs huk hfk2 HOr HSz HT0 HB0 HHZ HHR HOW hfp hfk hck hcr hcz HO HT HB HZ hzb
                obtain ⟨D1, HD1⟩ : ∃ D1, Hid (swapR [] D p kt = D1) := ⟨_, Lib.hid rfl⟩
                obtain ⟨w1s, Hw1⟩ : ∃ w1s, Hid (swapR undef ws' p kt = w1s) := ⟨_, Lib.hid rfl⟩
                rw [HD1.out] at HW2 HSH1 HX1
                rw [Hw1.out] at HW2 HV1
                obtain ⟨x, Hx⟩ : ∃ x, Hid (D.getD p [] = x) := ⟨_, Lib.hid rfl⟩
                rw [Hx.out] at HX1
                have HXc : Hid (z = x.getD cc 0) := Lib.hid (by rw [← Hx.out]; exact HQ.out)
                have HxL : Hid (x.length = nm + 1 ∧ Nums x) := Lib.hid (by rw [← HX1.out]; exact HSH1.out.2 kt hkn)
                obtain ⟨hc1, hf1, hgx, z', hcz', HQ'⟩ := HW2.out.cells hkn rfl HV1.out HX1.out (show cc < nm + 1 by omega)
                obtain rfl : z' = z := HQ'.out.trans HXc.out.symm
                clear HQ' hf1 hgx
                go_wp2_with fail
                refine (s_l1Inv _ _ z1 z2).mono ?_
                rintro e w' ⟨rfl, rfl⟩
                obtain ⟨v, HVI⟩ : ∃ v, Hid (powI z' 111 113 = v) := ⟨_, Lib.hid rfl⟩
                have hv0 : 0 ≤ v := by rw [← HVI.out]; exact powI_lo _ _ _
                have hv1 : v ≤ 112 := by rw [← HVI.out]; exact powI_hi _ _ 113 (by omega)
                rw [HVI.out]
                clear hc1 hcz'
                go_wp2
                go_loopw [14] (fun jv wr => ∃ j : Nat, j ≤ nm + 1 ∧ jv = .int .i64 j ∧ Hid (OwR wr w.heap.size mid (some ⟨g0, 0, none⟩) n co w1s (D1.set kt (updJ (scaleF x v) x j))) ∧ Hid (wr.ownsRow mid 3 1 (.slice At kt ct) kt (cI T)) ∧ Hid (Below w.heap.size w wr) ∧ Hid (mid ≤ wr.heap.size)) (fun jv _ => nm + 1 - (intOf jv).toNat)
                case atStart => exact ⟨0, Nat.zero_le _, rfl, Lib.hid (by rw [updJ, ← HX1.out, set_self]; exact HW2.out), HT2, HB2, HZ2⟩
                case round =>
                  clear HW2 HT2 HB2 HZ2
                  obtain ⟨j, hj, rfl, HO, HT, HB, HZ⟩ := hrel
                  have HD1L : Hid (D1.length = n) := Lib.hid HSH1.out.1
                  have jj0 : (0 : Int) ≤ (j : Int) := by omega
                  by_cases hjl : j < nm + 1
                  · obtain ⟨hcr, hf, hgx, y, hcy, HY⟩ := HO.out.cells hkn rfl HV1.out (getD_upd HD1L.out hkn) hjl
                    have hye : y = x.getD j 0 := by
                      have := HY.out
                      rw [updJ_get _ _ _ _ (by have := HxL.out.1; omega), if_neg (by omega)] at this
                      exact this
                    have HYE := Lib.hid hye
                    have y0 : 0 ≤ y := by rw [hye]; exact (HxL.out.2 j).1
                    have y1 : y ≤ 112 := by rw [hye]; exact (HxL.out.2 j).2
                    clear hye HY
                    obtain ⟨t0, t1⟩ := mul_bd y v y0 y1 hv0 hv1
                    have HO3 : Hid (OwR (wr.setCell ⟨gi, j, none⟩ (.int .i64 (y * v % 113))).drew w.heap.size mid (some ⟨g0, 0, none⟩) n co w1s (D1.set kt (updJ (scaleF x v) x (j + 1)))) := Lib.hid (HO.out.putU HD1L.out HZ.out hkn HV1.out HxL.out.1 hjl (by rw [HYE.out]; rfl))
                    have HT3 : Hid ((wr.setCell ⟨gi, j, none⟩ (.int .i64 (y * v % 113))).drew.ownsRow mid 3 1 (.slice At kt ct) kt (cI T)) := Lib.hid (own_kept HT.out (((Kept.refl gi (gi + 1) wr).setCell (p := ⟨gi, j, none⟩) (Nat.le_refl _) (Nat.lt_succ_self _) _).drew) hgx)
                    have HB3 : Hid (Below w.heap.size w (wr.setCell ⟨gi, j, none⟩ (.int .i64 (y * v % 113))).drew) := Lib.hid (below_drew (HB.out.setCell (p := ⟨gi, j, none⟩) HG.out.2.2.1 _))
                    have HZ3 : Hid (mid ≤ (wr.setCell ⟨gi, j, none⟩ (.int .i64 (y * v % 113))).drew.heap.size) := Lib.hid (by rw [World.size_drew, World.size_setCell]; exact HZ.out)
                    clear HO HT HB HZ HYE
                    have jj1 : (j : Int) < ((nm + 1 : Nat) : Int) := by omega
                    have iw : IntKind.i64.wrap (y * v) = y * v := IntWalk.i64_in _ (by omega)
                    have ir : (y * v).tmod 113 = y * v % 113 := Int.tmod_eq_emod_of_nonneg t0
                    go_wp2
                    go_still_tail 16, (by kernel_rfl)
                    change wpList _ _ _ _ _ wr.drew
                    clear iw ir
                    go_wp2
                    go_roundw
                    case rel => exact ⟨j + 1, by omega, by go_num, HO3, HT3, HB3, HZ3⟩
                    case measure => simp [intOf] <;> omega
                  · have hcr := (HO.out.cells hkn rfl HV1.out (getD_upd HD1L.out hkn) (show 0 < nm + 1 by omega)).1
                    have hje : j = nm + 1 := by omega
                    have HOj := HO
                    rw [hje] at HOj
                    clear HO hje
                    obtain ⟨xk, HXK⟩ : ∃ xk, Hid (updJ (scaleF x v) x (nm + 1) = xk) := ⟨_, Lib.hid rfl⟩
                    have HKL : Hid (xk.length = nm + 1 ∧ Nums xk) := Lib.hid (by
                      rw [← HXK.out]
                      exact ⟨by rw [updJ_length]; exact HxL.out.1, nums_updJ HxL.out.2 (fun _ _ => scaleF_bd _ _ _) _ (by have := HxL.out.1; omega)⟩)
                    obtain ⟨D2, HD2⟩ : ∃ D2, Hid (D1.set kt xk = D2) := ⟨_, Lib.hid rfl⟩
                    have HSH2 : Hid (Shp D2 n (nm + 1)) := Lib.hid (by rw [← HD2.out]; exact HSH1.out.set HKL.out.1 HKL.out.2)
                    have HK2 : Hid (D2.getD kt [] = xk) := Lib.hid (by rw [← HD2.out, getD_set1 _ _ _ _ _ (by have := HD1L.out; omega), if_pos rfl])
                    have HE0 : Hid (OwR wr w.heap.size mid (some ⟨g0, 0, none⟩) n co w1s (elimI D2 kt cc (nm + 1) 0)) := Lib.hid (by rw [elimI, ← HD2.out, ← HXK.out]; exact HOj.out)
                    clear HOj
                    go_wp2
                    go_loopw [15, 16, 17] (fun qv _ _ wr => ∃ q : Nat, q ≤ n ∧ qv = .int .i64 q ∧ Hid (OwR wr w.heap.size mid (some ⟨g0, 0, none⟩) n co w1s (elimI D2 kt cc (nm + 1) q)) ∧ Hid (wr.ownsRow mid 3 1 (.slice At kt ct) kt (cI T)) ∧ Hid (Below w.heap.size w wr) ∧ Hid (mid ≤ wr.heap.size)) (fun qv _ _ _ => n - (intOf qv).toNat)
                    case atStart => exact ⟨0, Nat.zero_le _, rfl, HE0, HT, HB, HZ⟩
                    case round =>
                      clear HE0 HT HB HZ hcr
                      obtain ⟨q, hq, rfl, HO, HT, HB, HZ⟩ := hrel
                      have q0 : (0 : Int) ≤ (q : Int) := by omega
                      by_cases hqn : q < n
                      · have q1 : (q : Int) < (n : Int) := by omega
                        obtain ⟨E, HE⟩ : ∃ E, Hid (elimI D2 kt cc (nm + 1) q = E) := ⟨_, Lib.hid rfl⟩
                        rw [HE.out] at HO
                        have HSE : Hid (Shp E n (nm + 1)) := Lib.hid (by rw [← HE.out]; exact HSH2.out.elim hq)
                        obtain ⟨y, Hy⟩ : ∃ y, Hid (E.getD q [] = y) := ⟨_, Lib.hid rfl⟩
                        have Hy2 : Hid (D2.getD q [] = y) := Lib.hid (by
                          rw [← Hy.out, ← HE.out, elimI_get _ _ _ _ _ _ (by have := HSH2.out.1; omega), if_neg (by omega)])
                        have HyL : Hid (y.length = nm + 1 ∧ Nums y) := Lib.hid (by rw [← Hy.out]; exact HSE.out.2 q hqn)
                        obtain ⟨g, gq, cq, hg, _, _, hgql, hgqh, hcq0, hvq, _⟩ := HO.out.at2 hqn (HSE.out.2 q hqn).1 (Nat.succ_pos _)
                        obtain rfl : g0 = g := by injection hg with hg; injection hg
                        have HVQ := Lib.hid hvq
                        have HGQ := Lib.hid hgql
                        clear hg hgqh hvq hgql
                        obtain ⟨hcr, hf, hgx, f, hcf, HF⟩ := HO.out.cells hqn rfl HVQ.out Hy.out (show cc < nm + 1 by omega)
                        have f0 : 0 ≤ f := by rw [HF.out]; exact (HyL.out.2 cc).1
                        have f1 : f ≤ 112 := by rw [HF.out]; exact (HyL.out.2 cc).2
                        clear hcr hf hgx
                        by_cases hqk : q = kt
                        · subst hqk
                          have HO3 : Hid (OwR wr w.heap.size mid (some ⟨g0, 0, none⟩) n co w1s (elimI D2 q cc (nm + 1) (q + 1))) := Lib.hid (by rw [elimI, if_pos rfl, HE.out]; exact HO.out)
                          obtain ⟨wz, rfl⟩ : ∃ wz : World, wz = wr := ⟨_, rfl⟩
                          clear HO
                          have hneq : ((q : Int) != (q : Int)) = false := by simp
                          go_wp2
                          go_loopw [17] (fun jv wr => jv = .int .i64 0 ∧ Hid (Still wz wr)) (fun _ _ => 0)
                          case atStart => exact ⟨rfl, Lib.hid (Still.refl _)⟩
                          case round =>
                            obtain ⟨rfl, HW⟩ := hrel
                            have HO4 := Lib.hid (HO3.out.still HW.out)
                            have HT4 : Hid (wr.ownsRow mid 3 1 (.slice At q ct) q (cI T)) := Lib.hid (by obtain ⟨t, ht⟩ := HW.out; rw [ht]; exact HT.out)
                            have HB4 : Hid (Below w.heap.size w wr) := Lib.hid (HB.out.trans (HW.out.below _))
                            have HZ4 : Hid (mid ≤ wr.heap.size) := Lib.hid (by rw [HW.out.sz]; exact HZ.out)
                            clear HO3 HT HB HZ
                            go_wp2
                            go_roundw
                            case rel => exact ⟨q + 1, by omega, by go_num, HO4, HT4, HB4, HZ4⟩
                            case measure => simp [intOf] <;> omega
                        · have hneq : ((q : Int) != (kt : Int)) = true := by rw [bne_iff_ne]; omega
                          have HEL : Hid (E.length = n) := Lib.hid HSE.out.1
                          have HO0 : Hid (OwR wr w.heap.size mid (some ⟨g0, 0, none⟩) n co w1s (E.set q (updJ (elimF y xk f) y 0))) := Lib.hid (by rw [updJ, ← Hy.out, set_self]; exact HO.out)
                          clear HO
                          go_wp2
                          go_loopw [17] (fun jv wr => ∃ j : Nat, j ≤ nm + 1 ∧ jv = .int .i64 j ∧ Hid (OwR wr w.heap.size mid (some ⟨g0, 0, none⟩) n co w1s (E.set q (updJ (elimF y xk f) y j))) ∧ Hid (wr.ownsRow mid 3 1 (.slice At kt ct) kt (cI T)) ∧ Hid (Below w.heap.size w wr) ∧ Hid (mid ≤ wr.heap.size)) (fun jv _ => nm + 1 - (intOf jv).toNat)
                          case atStart => exact ⟨0, Nat.zero_le _, rfl, HO0, HT, HB, HZ⟩
                          case round =>
                            clear HO0 HT HB HZ hcf hcq0
                            obtain ⟨j, hj, rfl, HO, HT, HB, HZ⟩ := hrel
                            have jj0 : (0 : Int) ≤ (j : Int) := by omega
                            by_cases hjl : j < nm + 1
                            · obtain ⟨hcr, hfz, hgx, u, hcu, HU⟩ := HO.out.cells hqn rfl HVQ.out (getD_upd HEL.out hqn) hjl
                              have hue : u = y.getD j 0 := by
                                have := HU.out
                                rw [updJ_get _ _ _ _ (by have := HyL.out.1; omega), if_neg (by omega)] at this
                                exact this
                              have u0 : 0 ≤ u := by rw [hue]; exact (HyL.out.2 j).1
                              have u1 : u ≤ 112 := by rw [hue]; exact (HyL.out.2 j).2
                              have HUE := Lib.hid hue
                              clear hue HU
                              obtain ⟨hcr2, hf2, hgx2, b, hcb, HBQ⟩ := HO.out.cells hkn rfl HV1.out (y := xk) (by
                                rw [getD_set1 _ _ _ _ _ (by have := HEL.out; omega), if_neg hqk, ← HE.out, elimI_get _ _ _ _ _ _ (by have := HSH2.out.1; omega), if_neg (by omega)]; exact HK2.out) hjl
                              have b0 : 0 ≤ b := by rw [HBQ.out]; exact (HKL.out.2 j).1
                              have b1 : b ≤ 112 := by rw [HBQ.out]; exact (HKL.out.2 j).2
                              clear hf2 hgx2
                              obtain ⟨t0, t1⟩ := mul_bd f b f0 f1 b0 b1
                              have s0 : 0 ≤ f * b % 113 := by omega
                              have s1 : f * b % 113 ≤ 112 := by omega
                              have HO3 : Hid (OwR (wr.setCell ⟨gq, j, none⟩ (.int .i64 ((u - f * b) % 113))).drew w.heap.size mid (some ⟨g0, 0, none⟩) n co w1s (E.set q (updJ (elimF y xk f) y (j + 1)))) := Lib.hid (HO.out.putU HEL.out HZ.out hqn HVQ.out HyL.out.1 hjl (by unfold elimF; rw [← HUE.out, ← HBQ.out]; omega))
                              have HT3 : Hid ((wr.setCell ⟨gq, j, none⟩ (.int .i64 ((u - f * b) % 113))).drew.ownsRow mid 3 1 (.slice At kt ct) kt (cI T)) := Lib.hid (own_kept HT.out (((Kept.refl gq (gq + 1) wr).setCell (p := ⟨gq, j, none⟩) (Nat.le_refl _) (Nat.lt_succ_self _) _).drew) hgx)
                              have HB3 : Hid (Below w.heap.size w (wr.setCell ⟨gq, j, none⟩ (.int .i64 ((u - f * b) % 113))).drew) := Lib.hid (below_drew (HB.out.setCell (p := ⟨gq, j, none⟩) HGQ.out _))
                              have HZ3 : Hid (mid ≤ (wr.setCell ⟨gq, j, none⟩ (.int .i64 ((u - f * b) % 113))).drew.heap.size) := Lib.hid (by rw [World.size_drew, World.size_setCell]; exact HZ.out)
                              clear HO HT HB HZ HUE HBQ
                              have jj1 : (j : Int) < ((nm + 1 : Nat) : Int) := by omega
                              have iw : IntKind.i64.wrap (f * b) = f * b := IntWalk.i64_in _ (by omega)
                              have ir : (f * b).tmod 113 = f * b % 113 := Int.tmod_eq_emod_of_nonneg t0
                              go_wp2
                              go_still_tail 24, (by kernel_rfl)
                              still_call (same_ (s_l1Sub _ _ _ u0 u1 s0 s1))
                              repeat still_step
                              refine wpStill_nil ?_
                              change wpList _ _ _ _ _ wr.drew
                              clear iw ir
                              go_wp2
                              go_roundw
                              case rel => exact ⟨j + 1, by omega, by go_num, HO3, HT3, HB3, HZ3⟩
                              case measure => simp [intOf] <;> omega
                            · obtain rfl : j = nm + 1 := by omega
                              have hcr := (HO.out.cells hqn rfl HVQ.out (getD_upd HEL.out hqn) (show 0 < nm + 1 by omega)).1
                              have HO3 : Hid (OwR wr w.heap.size mid (some ⟨g0, 0, none⟩) n co w1s (elimI D2 kt cc (nm + 1) (q + 1))) := Lib.hid (by
                                rw [elimI, if_neg hqk, HE.out, Hy2.out, HK2.out, ← HF.out]; exact HO.out)
                              clear HO
                              go_wp2
                              go_roundw
                              case rel => exact ⟨q + 1, by omega, by go_num, HO3, HT, HB, HZ⟩
                              case measure => simp [intOf] <;> omega
                      · obtain rfl : q = n := by omega
                        have HTa : Hid ((wr.alloc (Obj.cells #[Value.int .i64 (cc : Int)] 3)).ownsRow mid 3 1 (.slice At kt ct) kt (cI T)) := Lib.hid (HT.out.alloc _)
                        have HRa : Hid (Rd (wr.alloc (Obj.cells #[Value.int .i64 (cc : Int)] 3)) (wr.heap.size + 1) 1 (some ⟨wr.heap.size, 0, none⟩) 1 (cI [(cc : Int)])) := Lib.hid (by
                          have := (Ow.new wr #[Value.int .i64 (cc : Int)] 3 1 1 rfl).rd; exact this)
                        have hza : mid ≤ (wr.alloc (Obj.cells #[Value.int .i64 (cc : Int)] 3)).heap.size := by have := HZ.out; simp; omega
                        have HBa : Hid (Below mid wr (wr.alloc (Obj.cells #[Value.int .i64 (cc : Int)] 3))) := Lib.hid ((Below.refl _ _).alloc HZ.out _)
                        have HR3 : Hid (redC (augR d r q) q (nm + 1) (cc + 1) = (elimI D2 kt cc (nm + 1) q, T ++ [(cc : Int)])) := Lib.hid (by
                          rw [redC, HR.out]
                          unfold redStep
                          dsimp only
                          rw [HTL.out, HP2.out, if_neg (by omega), HD1.out, HX1.out, ← HXc.out, HVI.out, HXK.out, HD2.out])
                        have HTL3 : Hid ((T ++ [(cc : Int)]).length = kt + 1) := Lib.hid (by rw [List.length_append, HTL.out]; rfl)
                        have HSH3 := Lib.hid (HSH2.out.elim (k := kt) (c := cc) (Nat.le_refl _))
                        clear HR HTL HP2 HD1 HX1 HXc HVI HXK HD2
                        go_wp2_with (at_builtin; refine wpList_append_rd rfl (.tmp 172) (.tmp 174) _ rfl mid 3 _ 1 8 Try.underlying27 info_int rfl (by decide) (.slice At kt ct) kt (cI T) rfl HTa.out _ _ 1 1 (cI [(cc : Int)]) rfl HRa.out (cI_one _) (by unfold maxLen; omega) (by omega) hza ?_; intro v1 w1 hown hg hat; have HOWN := Lib.hid hown; have HGR := Lib.hid hg; clear hown hg hat)
                        obtain ⟨A1, c1, hv1, _⟩ := Ow.of_own HOWN.out
                        subst hv1
                        have HBw : Hid (Below mid wr w1) := Lib.hid (below_grown HBa.out HGR.out (own_block HTa.out) hza)
                        have HO3 := Lib.hid (HO.out.below HBw.out (Nat.le_refl _))
                        have HT3 : Hid (w1.ownsRow mid 3 1 (.slice A1 (kt + 1) c1) (kt + 1) (cI (T ++ [(cc : Int)]))) := Lib.hid (by rw [cI_append]; exact HOWN.out)
                        have HB3 : Hid (Below w.heap.size w w1) := Lib.hid (HB.out.trans (HBw.out.mono HMZ.out))
                        have HZ3 : Hid (mid ≤ w1.heap.size) := Lib.hid (by have := HBw.out.size; have := HZ.out; omega)
                        clear HOWN HGR HTa HRa HBa HBw HO HT HB HZ
                        go_roundw
                        case rel => exact ⟨cc + 1, _, _, A1, kt + 1, c1, w1s, by omega, by go_num, rfl, HR3, HTL3, by omega, HSH3, HO3, HT3, HB3, HZ3⟩
                        case measure => simp [intOf] <;> omega
            · obtain rfl : p = n := by omega
              have HR2 : Hid (redC (augR d r p) p (nm + 1) (cc + 1) = (D, T)) := Lib.hid (by
                rw [redC, HR.out, redStep]
                have e : pivAt D cc p (p - T.length) T.length = p := by rw [HTL.out, ← HPV.out]; simp [pivAt]
                rw [if_pos e])
              have HO2 := Lib.hid (HO.out.still HW.out)
              have HT2 : Hid (wr.ownsRow mid 3 1 (.slice At kt ct) kt (cI T)) := Lib.hid (by obtain ⟨q, rfl⟩ := HW.out; exact HT.out)
              have HB2 : Hid (Below w.heap.size w wr) := Lib.hid (HB.out.trans (HW.out.below _))
              have HZ2 : Hid (mid ≤ wr.heap.size) := Lib.hid (by rw [HW.out.sz]; exact HZ.out)
              clear HO HT HB HR HZ
              go_wp2
              go_roundw
              case rel => exact ⟨cc + 1, D, T, At, kt, ct, ws', by omega, by go_num, rfl, HR2, HTL, hkt, HSH, HO2, HT2, HB2, HZ2⟩
              case measure => simp [intOf] <;> omega
        · obtain rfl : cc = nm := by omega
          go_wp2
          go_ret2
          exact ⟨_, _, _, mid, ws', rfl, HMZ.out, HZ.out, HB.out, by rw [HR.out]; exact HO.out, by rw [HR.out]; exact own_done rfl HT.out (by omega)⟩
end Go.Proofs.Ytbnobkojkfmccaa
