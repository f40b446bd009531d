/- Chapter 3 in the model: matrices, and a matrix times a list. -/
import Derived.Test.YtbnobkojkfmccaaSS2
import Derived.Test.YtbnobkojkfmccaaWalk2m
namespace Go.Proofs.Ytbnobkojkfmccaa
open Go.RowKit
set_option maxRecDepth 100000

def inB (n lo hi : Int) : Bool := decide (lo ≤ n) && decide (n ≤ hi)
theorem inB_t {n lo hi : Int} (h : lo ≤ n ∧ n ≤ hi) : inB n lo hi = true := by simp [inB, h]
theorem inB_f {n lo hi : Int} (h : ¬ (lo ≤ n ∧ n ≤ hi)) : inB n lo hi = false := by
  unfold inB
  by_cases h1 : lo ≤ n
  · have h2 : ¬ n ≤ hi := fun e => h ⟨h1, e⟩
    simp [h2]
  · simp [h1]
theorem inB_iff {n lo hi : Int} : inB n lo hi = true ↔ lo ≤ n ∧ n ≤ hi := by simp [inB]
set_option maxHeartbeats 400000 in
theorem s_l6In (n lo hi : Int) (w : World) :
    Calls Try.prog 49 #[.int .i64 n, .int .i64 lo, .int .i64 hi] w fun e w' => e = .returned (.bool (inB n lo hi)) ∧ w = w' := by
  by_cases h1 : lo ≤ n
  all_goals by_cases h2 : n ≤ hi
  all_goals
    go_enter Try.func49, Try.ntmps49
    go_wp2
    go_ret
    exact ⟨by simp [inB, h1, h2], rfl⟩

/-- the first k rows are as long as the first and hold numbers -/
def rowsK (d : List (List Int)) : Nat → Bool
  | 0 => true
  | k + 1 => rowsK d k && (decide ((d.getD k []).length = (d.getD 0 []).length) && numsB (d.getD k []))
def matB (d : List (List Int)) : Bool := inB d.length 1 8 && (inB (d.getD 0 []).length 1 8 && rowsK d d.length)
theorem rowsK_mono {d : List (List Int)} {k n : Nat} (h : rowsK d n = true) (hk : k ≤ n) : rowsK d k = true := by
  induction n with
  | zero => rw [show k = 0 by omega]; rfl
  | succ n ih =>
    by_cases hc : k = n + 1
    · rw [hc]; exact h
    · exact ih (by simp only [rowsK, Bool.and_eq_true] at h; exact h.1) (by omega)
theorem rowsK_bad {d : List (List Int)} {k n : Nat} (h : rowsK d (k + 1) = false) (hk : k < n) : rowsK d n = false := by
  apply Bool.eq_false_iff.2
  intro ht
  rw [rowsK_mono ht (show k + 1 ≤ n by omega)] at h; cases h
theorem rowsK_row {d : List (List Int)} {k n : Nat} (h : rowsK d n = true) (hk : k < n) : (d.getD k []).length = (d.getD 0 []).length ∧ numsB (d.getD k []) = true := by
  have := rowsK_mono h (show k + 1 ≤ n by omega)
  simp only [rowsK, Bool.and_eq_true, decide_eq_true_eq] at this
  exact this.2
/-- what a matrix is -/
structure Mat (d : List (List Int)) (m : Nat) : Prop where
  rows : 1 ≤ d.length ∧ d.length ≤ 8
  cols : 1 ≤ m ∧ m ≤ 8
  len : ∀ i, i < d.length → (d.getD i []).length = m
  nums : ∀ i, i < d.length → Nums (d.getD i [])
theorem Mat.of {d : List (List Int)} (h : matB d = true) : Mat d (d.getD 0 []).length := by
  simp only [matB, Bool.and_eq_true, inB_iff] at h
  exact ⟨by omega, by omega, fun i hi => (rowsK_row h.2.2 hi).1, fun i hi => nums_of_B (rowsK_row h.2.2 hi).2⟩

set_option maxHeartbeats 1000000 in
theorem s_MatrixOk (A : Option Addr) (n c : Nat) (vs : List Value) (d : List (List Int)) (w : World) (h : RdR w w.heap.size A n vs d) (hn : n ≤ 1048576) (hl : lensK d n ≤ 1048576) :
    Calls Try.prog 13 #[.slice A n c] w fun e w' => e = .returned (.bool (matB d)) ∧ Still w w' := by
  have hlen := Lib.hid h.2.1
  have HL := Lib.hid hl
  have H := Lib.hid h
  clear h hl
  have arm : True := trivial
  by_cases hb : 1 ≤ n ∧ n ≤ 8
  · obtain ⟨b1, b2⟩ := hb
    have HI : Hid (inB (n : Int) 1 8 = true) := Lib.hid (inB_t ⟨by omega, by omega⟩)
    obtain ⟨a, A0, m, c0, rfl, hab, hc00, hr0, hm, hm0⟩ := H.out.row (show 0 < n by omega)
    have hc0 : w.cell? a = some (.slice A0 m c0) := hc00
    have HM0 := Lib.hid hm0
    have HC0 := Lib.hid hc0
    clear hc00 hr0 hm0
    by_cases hb2 : 1 ≤ m ∧ m ≤ 8
    · have HI2 : Hid (inB (m : Int) 1 8 = true) := Lib.hid (inB_t ⟨by omega, by omega⟩)
      have HB : Hid (matB d = rowsK d n) := Lib.hid (by unfold matB; rw [hlen.out, HM0.out, HI.out, HI2.out]; rfl)
      obtain ⟨b3, b4⟩ := hb2
      go_enter Try.func13, Try.ntmps13
      go_wp2_with fail
      refine (s_l6In _ _ _ _).mono ?_
      rintro e w' ⟨rfl, rfl⟩
      rw [HI.out]
      go_wp2_with fail
      refine (s_l6In _ _ _ _).mono ?_
      rintro e w' ⟨rfl, rfl⟩
      rw [HI2.out]
      clear hc0
      go_wp2
      go_loopw [3] (fun i wr => ∃ k : Nat, k ≤ n ∧ i = .int .i64 k ∧ Hid (rowsK d k = true) ∧ Hid (Still w wr)) (fun i _ => n - (intOf i).toNat)
      case atStart => exact ⟨0, Nat.zero_le _, rfl, Lib.hid rfl, Lib.hid (Still.refl _)⟩
      case round =>
        obtain ⟨k, hk, rfl, HK, HS⟩ := hrel
        by_cases hlt : k < n
        · obtain ⟨a2, Ai, ni, ci, ha2, _, hci0, hri, hni, hmi⟩ := H.out.row hlt
          obtain rfl : a = a2 := by injection ha2
          have hci := (HS.out.cell (a.add k)).trans hci0
          have hc0 := (HS.out.cell a).trans HC0.out
          have HMI := Lib.hid hmi
          have HRI := Lib.hid (RdIntS.below hri (HS.out.below _))
          have HZ : Hid (w.heap.size ≤ wr.heap.size) := Lib.hid (by rw [HS.out.sz]; exact Nat.le_refl _)
          clear hci0 hri hmi ha2
          have i0 : (0 : Int) ≤ (k : Int) := by omega
          have i1 : (k : Int) < (n : Int) := by omega
          have i2 : (0 : Int) < (n : Int) := by omega
          by_cases he : ni = m
          · have hne : ((ni : Int) != (m : Int)) = false := by rw [he]; simp
            have hsm : ni ≤ 1048576 := by omega
            have HRD : ∀ q, Rd (wr.drewN q) (wr.drewN q).heap.size 1 Ai ni (cI (d.getD k [])) := fun q => by
              obtain ⟨A2, n2, c2, e, _, r⟩ := HRI.out
              injection e with e1 e2 e3; subst e1; subst e2; subst e3
              exact (r.more HZ.out)
            have HRH := Lib.hid HRD
            clear HRD
            cases hnb : numsB (d.getD k [])
            · have HF : Hid (false = matB d) := Lib.hid (by rw [HB.out, rowsK_bad (k := k) (by rw [rowsK, hnb]; simp) hlt])
              have hcall := fun q => s_l1In Ai ni ci (d.getD k []) (wr.drewN q) (HRH.out q) hsm
              rw [hnb] at hcall
              have HCALL := Lib.hid hcall
              clear hcall hnb he
              go_wp2
              go_quiet ((go_at_call 50; exact quiet_drewN (HCALL.out _)))
              go_wp2
              go_ret
              exact ⟨ret_bool HF.out, HS.out.drewN _⟩
            · have HK2 : Hid (rowsK d (k + 1) = true) := Lib.hid (by rw [rowsK, HK.out, hnb, HMI.out, HM0.out, he]; simp)
              have hcall := fun q => s_l1In Ai ni ci (d.getD k []) (wr.drewN q) (HRH.out q) hsm
              rw [hnb] at hcall
              have HCALL := Lib.hid hcall
              clear hcall hnb he
              go_wp2
              go_quiet ((go_at_call 50; exact quiet_drewN (HCALL.out _)))
              go_wp2
              go_roundw
              case rel => exact ⟨k + 1, by omega, by go_num, HK2, Lib.hid (HS.out.drewN _)⟩
              case measure => simp [intOf] <;> omega
          · have hne : ((ni : Int) != (m : Int)) = true := by rw [bne_iff_ne]; omega
            have HF : Hid (false = matB d) := Lib.hid (by
              rw [HB.out, rowsK_bad (k := k) (by rw [rowsK, HMI.out, HM0.out]; simp [he]) hlt])
            clear he
            go_wp2
            go_quiet (fail)
            go_wp2
            go_ret
            exact ⟨ret_bool HF.out, HS.out.drewN _⟩
        · have HF : Hid (true = matB d) := Lib.hid (by rw [HB.out, ← HK.out, show k = n by omega])
          go_wp2
          go_ret
          exact ⟨ret_bool HF.out, HS.out⟩
    · have HI2 : Hid (inB (m : Int) 1 8 = false) := Lib.hid (inB_f (by omega))
      have HF : Hid (false = matB d) := Lib.hid (by unfold matB; rw [HM0.out, HI2.out]; simp)
      go_enter Try.func13, Try.ntmps13
      go_wp2_with fail
      refine (s_l6In _ _ _ _).mono ?_
      rintro e w' ⟨rfl, rfl⟩
      rw [HI.out]
      go_wp2_with fail
      refine (s_l6In _ _ _ _).mono ?_
      rintro e w' ⟨rfl, rfl⟩
      rw [HI2.out]
      go_wp2
      go_ret
      exact ⟨ret_bool HF.out, Still.refl _⟩
  · have HI : Hid (inB (n : Int) 1 8 = false) := Lib.hid (inB_f (by omega))
    have HF : Hid (false = matB d) := Lib.hid (by unfold matB; rw [hlen.out, HI.out]; rfl)
    go_enter Try.func13, Try.ntmps13
    go_wp2_with fail
    refine (s_l6In _ _ _ _).mono ?_
    rintro e w' ⟨rfl, rfl⟩
    rw [HI.out]
    go_wp2
    go_ret
    exact ⟨ret_bool HF.out, Still.refl _⟩
end Go.Proofs.Ytbnobkojkfmccaa
