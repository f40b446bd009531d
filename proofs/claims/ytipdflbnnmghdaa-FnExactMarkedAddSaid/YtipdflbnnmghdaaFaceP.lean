/- Lists of pairs as whole values: what a law hands from call to call. -/
import Derived.Test.YtipdflbnnmghdaaPts
namespace Go.Proofs.Ytipdflbnnmghdaa
open Go.RowKit
set_option maxRecDepth 100000

def RdPointS (w : World) (hi : Nat) (v : Value) (d : List (Int × Int)) : Prop := ∃ A n c, v = .slice A n c ∧ n ≤ 9223372036854775807 ∧ Rd w hi 2 A n (cP d)
def szPointS (d : List (Int × Int)) : Nat := d.length
def mkPointS (K : Int) (d : List (Int × Int)) : List (Int × Int) := iotaP K d.length
section
variable {w w' : World} {lo hi lo' hi' B mid : Nat} {v : Value} {d : List (Int × Int)}
theorem RdPointS.below (h : RdPointS w hi v d) (hb : Below hi w w') : RdPointS w' hi v d := by
  obtain ⟨A, n, c, rfl, hn, r⟩ := h; exact ⟨A, n, c, rfl, hn, r.below hb⟩
theorem RdPointS.more (h : RdPointS w hi v d) (hh : hi ≤ hi') : RdPointS w hi' v d := by
  obtain ⟨A, n, c, rfl, hn, r⟩ := h; exact ⟨A, n, c, rfl, hn, r.more hh⟩
end
end Go.Proofs.Ytipdflbnnmghdaa
