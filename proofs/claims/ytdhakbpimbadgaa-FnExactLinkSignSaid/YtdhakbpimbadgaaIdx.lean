/- Whether an index lies in a list's length. -/
import Derived.Test.YtdhakbpimbadgaaIn
import Derived.Test.YtdhakbpimbadgaaWalk2a
namespace Go.Proofs.Ytdhakbpimbadgaa
open Go.RowKit
set_option maxRecDepth 100000

set_option maxHeartbeats 1000000 in
theorem i_indexOk (i n : Int) (w : World) :
    Calls Try.prog 85 #[.int .i64 i, .int .i64 n] w fun e w' => e = .returned (.bool (inB i 0 (n - 1))) ∧ w = w' := by
  by_cases h1 : 0 ≤ i
  · by_cases h2 : i < n
    · have HF : Hid (inB i 0 (n - 1) = true) := Lib.hid (inB_t ⟨h1, by omega⟩)
      go_enter Try.func85, Try.ntmps85
      go_wp2
      go_ret
      exact ⟨ret_bool HF.out.symm, rfl⟩
    · have HF : Hid (inB i 0 (n - 1) = false) := Lib.hid (inB_f (by omega))
      go_enter Try.func85, Try.ntmps85
      go_wp2
      go_ret
      exact ⟨ret_bool HF.out.symm, rfl⟩
  · have HF : Hid (inB i 0 (n - 1) = false) := Lib.hid (inB_f (by omega))
    have q : i < 0 := by omega
    go_enter Try.func85, Try.ntmps85
    go_wp2
    go_ret
    exact ⟨ret_bool HF.out.symm, rfl⟩
end Go.Proofs.Ytdhakbpimbadgaa
