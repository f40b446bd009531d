/- Chapter 2: PolyAt. -/
import Derived.Test.YtpdkkfbnfjfmhaaWalk2b
namespace Go.Proofs.Ytpdkkfbnfjfmhaa
open Go.RowKit

def polyAtB (zs : List Int) (x : Int) : Bool := polyB zs && numB x
def polyAtV (zs : List Int) (x : Int) : Int := if polyAtB zs x = true then atI zs x else 0
theorem ret_ib2 {k : IntKind} {a b : Int} {c d : Bool} (h : a = b) (h2 : c = d) : Ending.returned (.tuple #[.int k a, .bool c]) = .returned (.tuple #[.int k b, .bool d]) := by rw [h, h2]
theorem polyAt_no {zs : List Int} {x : Int} (h : polyAtB zs x = false) : (0 : Int) = polyAtV zs x := by simp [polyAtV, h]
theorem polyAt_yes {zs : List Int} {x : Int} (h : polyAtB zs x = true) : atI zs x = polyAtV zs x := by simp [polyAtV, h]

set_option maxHeartbeats 400000 in
theorem s_PolyAt (A : Option Addr) (n c : Nat) (zs : List Int) (x : Int) (w : World) (h : Rd w w.heap.size 1 A n (cI zs)) (hn : n ≤ 1048576) :
    Calls Try.prog 13 #[.slice A n c, .int .i64 x] w fun e w' => e = .returned (.tuple #[.int .i64 (polyAtV zs x), .bool (polyAtB zs x)]) ∧ w = w' := by
  have H := Lib.hid h
  clear h
  cases hp : polyB zs
  · have HF : Hid (polyAtB zs x = false) := Lib.hid (by simp [polyAtB, hp])
    go_enter Try.func13, Try.ntmps13
    go_wp2_with (first | (go_at_call 9; refine (s_PolyOk _ _ _ _ _ H.out hn).mono ?_; rintro e w' ⟨rfl, rfl⟩) | go_in)
    go_ret2
    exact ⟨ret_ib2 (polyAt_no HF.out) HF.out.symm, rfl⟩
  · cases hx : numB x
    · have HF : Hid (polyAtB zs x = false) := Lib.hid (by simp [polyAtB, hx])
      go_enter Try.func13, Try.ntmps13
      go_wp2_with (first | (go_at_call 9; refine (s_PolyOk _ _ _ _ _ H.out hn).mono ?_; rintro e w' ⟨rfl, rfl⟩) | (go_at_call 31; refine (s_NumOk _ _).mono ?_; rintro e w' ⟨rfl, rfl⟩) | go_in)
      go_ret2
      exact ⟨ret_ib2 (polyAt_no HF.out) HF.out.symm, rfl⟩
    · have HF : Hid (polyAtB zs x = true) := Lib.hid (by simp [polyAtB, hp, hx])
      have hN := Lib.hid (polyB_nums hp)
      have hx1 := Lib.hid ((numB_iff x).1 hx)
      go_enter Try.func13, Try.ntmps13
      go_wp2_with (first | (go_at_call 9; refine (s_PolyOk _ _ _ _ _ H.out hn).mono ?_; rintro e w' ⟨rfl, rfl⟩) | (go_at_call 31; refine (s_NumOk _ _).mono ?_; rintro e w' ⟨rfl, rfl⟩) | (go_at_call 32; refine (s_l2At _ _ _ _ _ _ H.out hN.out hn hx1.out.1 hx1.out.2).mono ?_; rintro e w' ⟨rfl, rfl⟩) | go_in)
      go_ret2
      exact ⟨ret_ib2 (polyAt_yes HF.out) HF.out.symm, rfl⟩

set_option maxHeartbeats 400000 in
theorem i_PolyAt (A : Option Addr) (n c : Nat) (zs : List Int) (x : Int) (w : World) (h : Rd w w.heap.size 1 A n (cI zs)) (hn : n ≤ 1048576) :
    Calls Try.prog 14 #[.slice A n c, .int .i64 x] w fun e w' => e = .returned (.tuple #[.int .i64 (polyAtV zs x), .bool (polyAtB zs x)]) ∧ Still w w' := by
  have H := Lib.hid h
  clear h
  cases hp : polyB zs
  · have HF : Hid (polyAtB zs x = false) := Lib.hid (by simp [polyAtB, hp])
    go_enter Try.func14, Try.ntmps14
    go_wp2_with (first | (go_at_call 11; refine (i_PolyOk _ _ _ _ _ H.out hn).mono ?_; rintro e w' ⟨rfl, rfl⟩) | go_in)
    go_ret2
    exact ⟨ret_ib2 (polyAt_no HF.out) HF.out.symm, Still.refl _⟩
  · cases hx : numB x
    · have HF : Hid (polyAtB zs x = false) := Lib.hid (by simp [polyAtB, hx])
      go_enter Try.func14, Try.ntmps14
      go_wp2_with (first | (go_at_call 11; refine (i_PolyOk _ _ _ _ _ H.out hn).mono ?_; rintro e w' ⟨rfl, rfl⟩) | (go_at_call 33; refine (i_NumOk _ _).mono ?_; rintro e w' ⟨rfl, rfl⟩) | go_in)
      go_ret2
      exact ⟨ret_ib2 (polyAt_no HF.out) HF.out.symm, Still.refl _⟩
    · have HF : Hid (polyAtB zs x = true) := Lib.hid (by simp [polyAtB, hp, hx])
      have hN := Lib.hid (polyB_nums hp)
      have hx1 := Lib.hid ((numB_iff x).1 hx)
      go_enter Try.func14, Try.ntmps14
      go_wp2_with (first | (go_at_call 11; refine (i_PolyOk _ _ _ _ _ H.out hn).mono ?_; rintro e w' ⟨rfl, rfl⟩) | (go_at_call 33; refine (i_NumOk _ _).mono ?_; rintro e w' ⟨rfl, rfl⟩) | (go_at_call 34; refine (i_polynomial_at _ _ _ _ _ _ H.out hN.out hn hx1.out.1 hx1.out.2).mono ?_; rintro e w1 ⟨rfl, hs⟩) | go_in)
      go_ret2
      exact ⟨ret_ib2 (polyAt_yes HF.out) HF.out.symm, hs⟩
end Go.Proofs.Ytpdkkfbnfjfmhaa
