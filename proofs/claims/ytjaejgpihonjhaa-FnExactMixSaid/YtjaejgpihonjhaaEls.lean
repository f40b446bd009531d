/- Lists of elements: elementsOk of the program. -/
import Derived.Test.YtjaejgpihonjhaaWalk1b
import Derived.Test.YtjaejgpihonjhaaWalk2a
namespace Go.Proofs.Ytjaejgpihonjhaa
open Go.RowKit
set_option maxRecDepth 100000

def elsB (zs : List Int) : Bool := zs.all elB
theorem elsB_bad (zs : List Int) (k : Nat) (hk : k < zs.length) (h : elB (zs.getD k 0) = false) : elsB zs = false := by
  apply Bool.eq_false_iff.2
  intro ht
  unfold elsB at ht
  rw [List.all_eq_true] at ht
  have := ht _ (List.getElem_mem hk)
  rw [← getD_of zs k hk, h] at this; cases this
theorem elsB_take (zs : List Int) (k : Nat) (hk : k < zs.length) : elsB (zs.take (k + 1)) = (elsB (zs.take k) && elB (zs.getD k 0)) := by
  unfold elsB
  rw [take_snocD _ _ hk, List.all_append]; simp
theorem elsB_all (zs : List Int) : elsB (zs.take zs.length) = elsB zs := by rw [List.take_length]
theorem elsB_at {zs : List Int} (h : elsB zs = true) {k : Nat} (hk : k < zs.length) : 1 ≤ zs.getD k 0 ∧ zs.getD k 0 ≤ 226 := by
  unfold elsB at h
  rw [List.all_eq_true] at h
  have := h _ (List.getElem_mem hk)
  rw [← getD_of zs k hk] at this
  exact elB_range this

end Go.Proofs.Ytjaejgpihonjhaa
