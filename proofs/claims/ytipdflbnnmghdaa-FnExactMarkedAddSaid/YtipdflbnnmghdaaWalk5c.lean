/- Chapter 4: SharesExplain as the laws meet it. -/
import Derived.Test.YtipdflbnnmghdaaWalk5b
namespace Go.Proofs.Ytipdflbnnmghdaa
open Go.RowKit
set_option maxRecDepth 100000

theorem set_same0 (l : List Int) (k : Nat) (hk : k < l.length) (h : l.getD k 0 = 0) : l.set k 0 = l := by
  apply List.ext_getElem?
  intro i
  rw [List.getElem?_set]
  by_cases hc : k = i
  · subst hc
    rw [if_pos rfl, if_pos hk]
    rw [getD_of _ _ hk] at h
    rw [List.getElem?_eq_getElem hk, h]
  · rw [if_neg hc]
theorem fill_zero {zs : List Int} {n k : Nat} (hz : zs.length = n) (hk : k < n) (h0 : zs.getD k 0 = 0) : zs.take k ++ List.replicate (n - k) 0 = zs.take (k + 1) ++ List.replicate (n - (k + 1)) 0 := by
  rw [← copy_step hz hk, h0]
  refine (set_same0 _ _ (by simp; omega) ?_).symm
  have hl : (zs.take k).length = k := by simp; omega
  simp [hl, show 0 < n - k by omega]

end Go.Proofs.Ytipdflbnnmghdaa
