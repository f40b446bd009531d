/- The program's manyNumbers: just so many numbers. -/
import Derived.Test.YtdhakbpimbadgaaWalk2a
namespace Go.Proofs.Ytdhakbpimbadgaa
open Go.RowKit
set_option maxRecDepth 100000

set_option maxHeartbeats 1000000 in
theorem i_manyNumbers (A : Option Addr) (n c : Nat) (zs : List Int) (m : Int) (w : World) (h : Rd w w.heap.size 1 A n (cI zs)) (hn : n ≤ 1048576) :
    Calls Try.prog 44 #[.slice A n c, .int .i64 m] w fun e w' => e = .returned (.bool (decide ((n : Int) = m) && numsB zs)) ∧ w = w' := by
  have H := Lib.hid h
  clear h
  by_cases hm : (n : Int) = m
  · have HF : Hid ((decide ((n : Int) = m) && numsB zs) = numsB zs) := Lib.hid (by simp [hm])
    subst hm
    go_enter Try.func44, Try.ntmps44
    go_wp2_with fail
    refine (i_numbersOk _ _ _ _ _ H.out hn).mono ?_
    rintro e w' ⟨rfl, rfl⟩
    go_wp2
    go_ret
    exact ⟨ret_bool HF.out.symm, rfl⟩
  · have HF : Hid ((decide ((n : Int) = m) && numsB zs) = false) := Lib.hid (by simp [hm])
    have hm2 : ((n : Int) == m) = false := by rw [beq_eq_false_iff_ne]; exact hm
    go_enter Try.func44, Try.ntmps44
    go_wp2
    go_ret
    exact ⟨ret_bool HF.out.symm, rfl⟩

end Go.Proofs.Ytdhakbpimbadgaa
