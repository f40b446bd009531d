/- What the plain laws draw from bytes: lists of numbers; a number alone. -/
import Derived.Test.YtjpjmlcmaombnaaDraw3
namespace Go.Proofs.Ytjpjmlcmaombnaa
open Go.RowKit
set_option maxRecDepth 100000

set_option maxHeartbeats 1000000 in
theorem d_DrawNumOk (A : Option Addr) (n c : Nat) (bs : List Int) (w : World) (h : Rd w w.heap.size 1 A n (cU bs)) (hb : Byt bs) (hn : n ≤ 1048576) (hc : n ≤ c) :
    Calls Try.prog 53 #[.slice A n c] w fun e w' => ∃ s, e = .returned (.int .i64 s) ∧ (-1 ≤ s ∧ s ≤ 1000000007) ∧ Below w.heap.size w w' := by
  have H := Lib.hid h
  clear h
  go_enter Try.func53, Try.ntmps53
  go_wp2_with fail
  refine (d_l6Open _ _ _ _ _ H.out hb hn hc).mono ?_
  rintro e w1 ⟨rfl, ⟨A', n', c', bs', h1⟩, hb1⟩
  have H1 := Lib.hid h1
  have B1 := Lib.hid hb1
  clear h1 hb1
  go_wp2_with fail
  refine (d_l91Num _ _ _ _ _ _ _ _ H1.out (by omega)).mono ?_
  rintro e w2 ⟨z, q, rfl, hz, hq, h2, k2⟩
  have B2 : Hid (Below w.heap.size w w2) := Lib.hid (B1.out.trans (k2.to_below B1.out.size))
  clear h2 k2
  go_wp2
  go_ret
  exact ⟨_, rfl, hz, B2.out⟩
end Go.Proofs.Ytjpjmlcmaombnaa
