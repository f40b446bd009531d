/- P26: what SharesExplain tells gives just these shares. -/
import Derived.Test.YticmbnfmpjjohaaDraw3
import Derived.Test.YticmbnfmpjjohaaWalk5p
import Derived.Test.YticmbnfmpjjohaaLaw
namespace Go.Proofs.Yticmbnfmpjjohaa
open Go.RowKit
set_option maxRecDepth 100000

theorem expl_at {s : Int} {d : List (Int × Int)} (h : R_SharesExplain_1 s d = true) (i : Nat) (hi : i < d.length) :
    (1 ≤ px d i ∧ px d i ≤ 7) ∧ atI (s :: expL s d) (px d i) = py d i := by
  simp only [R_SharesExplain_1, expB, Bool.and_eq_true, decide_eq_true_eq] at h
  obtain ⟨hs, h6, hsh⟩ := h
  have hG := exp_good hs hsh h6
  have hsr := (numB_iff s).1 hs
  have hT := (thrS_at hG (1 + d.length) (Nat.le_refl _)).1
  have hN := thrS_nums ((0, s) :: d) (1 + d.length) (1 + d.length)
  have hL := thrS_len ((0, s) :: d) (1 + d.length) (1 + d.length) (Nat.le_refl _)
  have hx : 1 ≤ px d i ∧ px d i ≤ 7 := by
    simp only [shB, Bool.and_eq_true] at hsh
    exact xsK_at hsh.2 hi
  refine ⟨hx, ?_⟩
  have h0 : (thrS ((0, s) :: d) (1 + d.length) (1 + d.length)).getD 0 0 = s := by
    have := hT 0 (by omega)
    rw [show px ((0, s) :: d) 0 = 0 from rfl, show py ((0, s) :: d) 0 = s from rfl] at this
    have hz : sv (thrS ((0, s) :: d) (1 + d.length) (1 + d.length)) 0 = (thrS ((0, s) :: d) (1 + d.length) (1 + d.length)).getD 0 0 := by
      cases thrS ((0, s) :: d) (1 + d.length) (1 + d.length) with
      | nil => rfl
      | cons a l => simp [sv]
    rw [hz] at this
    have := hN 0
    omega
  have he : ∀ j, (s :: expL s d).getD j 0 = (thrS ((0, s) :: d) (1 + d.length) (1 + d.length)).getD j 0 := fun j => by
    cases j with
    | zero => rw [h0]; rfl
    | succ j =>
      by_cases hj : j < d.length
      · rw [← expL_get s d j hj]; rfl
      · rw [show (s :: expL s d).getD (j + 1) 0 = (expL s d).getD j 0 from rfl]
        rw [List.getD_eq_getElem?_getD, List.getD_eq_getElem?_getD, List.getElem?_eq_none (by rw [expL_length]; omega), List.getElem?_eq_none (by omega)]
  have hp := hT (i + 1) (by omega)
  rw [show px ((0, s) :: d) (i + 1) = px d i by simp [px], show py ((0, s) :: d) (i + 1) = py d i by simp [py]] at hp
  rw [atI_sv, sv_ext _ _ he, hp]
theorem expl_nums {s : Int} {d : List (Int × Int)} (h : R_SharesExplain_1 s d = true) : R_SharesOf_1 s 7 (expL s d) = true ∧ d.length ≤ 6 := by
  simp only [R_SharesExplain_1, expB, Bool.and_eq_true, decide_eq_true_eq] at h
  obtain ⟨hs, h6, hsh⟩ := h
  have hN := thrS_nums ((0, s) :: d) (1 + d.length) (1 + d.length)
  refine ⟨?_, h6⟩
  unfold R_SharesOf_1 ofB
  rw [hs, inB_t ⟨by omega, by omega⟩, expL_length, decide_eq_true (by omega)]
  have : numsB (expL s d) = true := by
    unfold numsB
    rw [List.all_eq_true]
    intro z hz
    simp only [expL, List.mem_map, List.mem_range] at hz
    obtain ⟨j, _, rfl⟩ := hz
    exact (numB_iff _).2 (hN (j + 1))
  rw [this]; rfl

set_option maxHeartbeats 1000000 in
theorem u_uvInts (A A' : Option Addr) (n c c' : Nat) (d : List Int) (w : World) (h : Rd w w.heap.size 1 A n (cI d)) (h' : Rd w w.heap.size 1 A' n (cI d)) (hn : n ≤ 1048576) :
    Calls Try.prog 18 #[.slice A n c, .slice A' n c'] w fun e w' => e = .returned (.bool true) ∧ Below w.heap.size w w' := by
  have H := Lib.hid h
  have H' := Lib.hid h'
  clear h h'
  go_enter Try.func18, Try.ntmps18
  go_wp2
  go_loopw [5] (fun i wr => ∃ k m : Nat, k ≤ n ∧ i = .int .i64 k ∧ wr = w.drewN m) (fun i _ => n - (intOf i).toNat)
  case atStart => exact ⟨0, 0, Nat.zero_le _, rfl, rfl⟩
  case round =>
    obtain ⟨k, m, hk, rfl, rfl⟩ := hrel
    by_cases hlt : k < n
    · obtain ⟨a, x, rfl, hab, hx, HP⟩ := H.out.intAt hlt
      obtain ⟨a', x', rfl, hab', hx', HP'⟩ := H'.out.intAt hlt
      obtain rfl : x' = x := by rw [HP.out, HP'.out]
      have i0 : (0 : Int) ≤ (k : Int) := by omega
      have i1 : (k : Int) < (n : Int) := by omega
      clear HP HP'
      go_wp2
      go_quiet (fail)
      go_wp2
      go_roundw
      case rel => exact ⟨k + 1, _, by omega, by go_num, rfl⟩
      case measure => simp [intOf] <;> omega
    · go_wp2
      go_ret
      exact ⟨rfl, below_drewN (Below.refl _ _) _⟩
end Go.Proofs.Yticmbnfmpjjohaa
