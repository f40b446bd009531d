/- Chapter 5: SharesMend in the program. -/
import Derived.Test.YtjpjmlcmaombnaaWalk6h
import Derived.Test.YtjpjmlcmaombnaaFaceP
import Derived.Test.YtjpjmlcmaombnaaWalk6a
import Derived.Deep.QuietTactic
import Derived.BigQuiet
namespace Go.Proofs.Ytjpjmlcmaombnaa
open Go.RowKit
set_option maxRecDepth 100000

set_option maxHeartbeats 2000000 in
theorem X_i_SharesMend (v : Value) (d : List Pt) (b : Int) (w : World) (lo hi : Nat) (h : OwPointS w lo hi v d) (hh : hi ≤ w.heap.size) (hs : szPointS d ≤ 1048576) :
    Calls Try.prog 25 #[v, .int .i64 b] w fun e w' => ∃ g, e = .returned (.tuple #[.int .i64 (R_SharesMend_0 d b), g, .bool (R_SharesMend_2 d b)]) ∧ OwIntS w' w.heap.size w'.heap.size g (R_SharesMend_1 d b) ∧ Below w.heap.size w w' := by
  have hrd := h.rd.more hh
  obtain ⟨_, A0, n0, c0, hv0, ow⟩ := h
  have hnc0 : n0 ≤ c0 := ow.2.1
  clear ow
  obtain ⟨A, n, c, hv, _, r⟩ := hrd
  obtain ⟨rfl, rfl, rfl⟩ : A0 = A ∧ n0 = n ∧ c0 = c := by rw [hv0] at hv; cases hv; exact ⟨rfl, rfl, rfl⟩
  subst hv0
  clear hv
  have hn : n0 ≤ 1048576 := by have := r.plen; unfold szPointS at hs; omega
  have HDN := Lib.hid r.plen
  have H := Lib.hid r
  clear r hs
  by_cases hm : 0 ≤ mostI n0 b
  · obtain ⟨n1, n7, b0, b1⟩ := most_ge hm
    have hm2 : ¬ (mostI n0 b < 0) := by omega
    cases hp : shB d 7
    · have HF := mend_none (mend_no (d := d) (b := b) (by
        unfold shB at hp; unfold mendB
        cases h1 : ptsB d
        · rfl
        · rw [h1] at hp; simp only [Bool.true_and] at hp ⊢; rw [hp]; simp))
      go_enter Try.func25, Try.ntmps25
      go_wp2_with fail
      refine (i_MendMost _ _ _).mono ?_
      rintro e w1 ⟨rfl, rfl⟩
      go_wp2_with fail
      refine (i_sharesOk _ _ _ _ _ _ H.out hn).mono ?_
      rintro e w1 ⟨rfl, hb⟩
      have HB := Lib.hid hb
      clear hb
      rw [hp]
      go_wp2
      go_ret3
      refine ⟨_, ret_ivb HF.out.1.symm HF.out.2.2.symm, ?_, HB.out⟩
      rw [HF.out.2.1]; exact OwIntS.nil_ _ _ _
    · have hpp : ptsB d = true ∧ xsK d 7 d.length = true := by unfold shB at hp; exact (Bool.and_eq_true _ _).mp hp
      obtain ⟨B, rfl⟩ := Int.eq_ofNat_of_zero_le b0
      have HGL : Hid (GL d) := Lib.hid (GL.of (by have := (shB_good HDN.out hpp.1).1; rw [HDN.out]; exact this))
      have HMO : Hid (mendO d B = sF d (B + 1) (mostI n0 B) d []) := Lib.hid (by
        unfold mendO; rw [if_pos (by unfold mendB; rw [hpp.1, hpp.2, HDN.out, decide_eq_true hm]; rfl), HDN.out]; simp)
      clear hpp
      go_enter Try.func25, Try.ntmps25
      go_wp2_with fail
      refine (i_MendMost _ _ _).mono ?_
      rintro e w1 ⟨rfl, rfl⟩
      go_wp2_with fail
      refine (i_sharesOk _ _ _ _ _ _ H.out hn).mono ?_
      rintro e w1 ⟨rfl, hb⟩
      have HB := Lib.hid hb
      have hz1 := HB.out.size
      have H1 : Hid (Rd w1 w1.heap.size 2 A0 n0 (cP d)) := Lib.hid ((H.out.below HB.out).more hz1)
      clear hb
      rw [hp]
      go_wp2_with fail
      refine (i_first A0 n0 c0 (B + 1) _ _ d w1 (by first | rfl | simp) HDN.out (by omega) hnc0 HGL.out (by omega) H1.out).mono ?_
      rintro e w2 ⟨hf, hb2⟩
      have z2 := hb2.size
      have HB2 : Hid (Below w.heap.size w w2) := Lib.hid (HB.out.trans (hb2.mono hz1))
      clear hb2
      cases hsf : sF d (B + 1) (mostI n0 B) d [] with
      | none =>
        rw [hsf] at hf
        obtain rfl : e = _ := hf
        have HF := mend_none (HMO.out.trans hsf)
        clear hsf HMO
        go_wp2
        obtain ⟨W, hW⟩ : ∃ W, Hid ((w2.alloc (.cells #[.int .i64 0, .slice none 0 0] 76)) = W) := ⟨_, Lib.hid rfl⟩
        have hg : W.heap[w2.heap.size]? = some (.cells #[.int .i64 0, .slice none 0 0] 76 (0, 0)) := by
          rw [← hW.out]; simpa using heap_alloc_new w2 (.cells #[.int .i64 0, .slice none 0 0] 76)
        have hc0 : W.cell? ⟨w2.heap.size, 0, none⟩ = some (.int .i64 0) := by rw [cell_of_row W _ 0 _ _ _ hg]; rfl
        have hc1 : W.cell? ⟨w2.heap.size, 1, none⟩ = some (.slice none 0 0) := by rw [cell_of_row W _ 1 _ _ _ hg]; rfl
        have HBW : Hid (Below w.heap.size w W) := Lib.hid (by rw [← hW.out]; exact HB2.out.alloc (by omega) _)
        rw [hW.out]
        clear hg
        go_quiet (fail)
        go_wp2
        go_ret3
        refine ⟨_, ret_ivb HF.out.1.symm HF.out.2.2.symm, ?_, below_drewN HBW.out _⟩
        rw [HF.out.2.1]; exact OwIntS.nil_ _ _ _
      | some p =>
        rw [hsf] at hf
        obtain ⟨v, rfl, hov⟩ := hf
        obtain ⟨As, ns, ks, rfl, hns, hnk, ho⟩ := hov.open
        have HOV := Lib.hid hov
        have HF := mend_some (HMO.out.trans hsf)
        clear hov ho hns hnk hsf HMO
        go_wp2
        obtain ⟨W, hW⟩ : ∃ W, Hid ((w2.alloc (.cells #[.int .i64 (atI p 0), .slice As ns ks] 76)) = W) := ⟨_, Lib.hid rfl⟩
        have hg : W.heap[w2.heap.size]? = some (.cells #[.int .i64 (atI p 0), .slice As ns ks] 76 (0, 0)) := by
          rw [← hW.out]; simpa using heap_alloc_new w2 (.cells #[.int .i64 (atI p 0), .slice As ns ks] 76)
        have hc0 : W.cell? ⟨w2.heap.size, 0, none⟩ = some (.int .i64 (atI p 0)) := by rw [cell_of_row W _ 0 _ _ _ hg]; rfl
        have hc1 : W.cell? ⟨w2.heap.size, 1, none⟩ = some (.slice As ns ks) := by rw [cell_of_row W _ 1 _ _ _ hg]; rfl
        have HBW : Hid (Below w.heap.size w W) := Lib.hid (by rw [← hW.out]; exact HB2.out.alloc (by omega) _)
        have HBX : Hid (Below w2.heap.size w2 W) := Lib.hid (by rw [← hW.out]; exact (Below.refl _ _).alloc (by omega) _)
        rw [hW.out]
        clear hg
        go_quiet (fail)
        go_wp2
        go_ret3
        refine ⟨_, ret_ivb HF.out.1.symm HF.out.2.2.symm, ?_, below_drewN HBW.out _⟩
        rw [HF.out.2.1]
        exact (HOV.out.below (below_drewN HBX.out _) (Nat.le_refl _)).widen hz1 (below_drewN HBX.out _).size
  · have HF := mend_none (mend_no (d := d) (b := b) (by unfold mendB; rw [HDN.out, decide_eq_false hm]; simp))
    have hm2 : mostI n0 b < 0 := by omega
    go_enter Try.func25, Try.ntmps25
    go_wp2_with fail
    refine (i_MendMost _ _ _).mono ?_
    rintro e w2 ⟨rfl, rfl⟩
    go_wp2
    go_ret3
    refine ⟨_, ret_ivb HF.out.1.symm HF.out.2.2.symm, ?_, Below.refl _ _⟩
    rw [HF.out.2.1]; exact OwIntS.nil_ _ _ _
end Go.Proofs.Ytjpjmlcmaombnaa
