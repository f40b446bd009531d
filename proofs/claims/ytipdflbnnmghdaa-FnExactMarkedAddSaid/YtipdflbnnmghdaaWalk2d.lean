/- Chapter 2: zeros at the end. -/
import Derived.Test.YtipdflbnnmghdaaAppend
import Derived.Test.YtipdflbnnmghdaaFaceI
import Derived.Test.YtipdflbnnmghdaaWalk2b
namespace Go.Proofs.Ytipdflbnnmghdaa
open Go.RowKit

theorem lit_done {w1 : World} {B k e : Nat} {v : Value} {ys res : List Int} (he : e = 3) (h : w1.ownsRow B e 1 v (0 + k) ([] ++ cI ys)) (hy : ys = res) (hs : k ≤ 1048576) : OwIntS w1 B w1.heap.size v res := by
  subst he
  subst hy
  rw [Nat.zero_add, List.nil_append] at h
  obtain ⟨A, c, rfl, ho⟩ := Ow.of_own h
  exact ⟨by have := ho.len; omega, A, _, c, rfl, ho⟩
theorem lit_below {w w1 : World} {o : Obj} (hg : (w.alloc o).grownBy w1 (Value.ownBlock (.slice (some ⟨w.heap.size, 0, none⟩) 0 0))) : Below w.heap.size w w1 :=
  ((Below.refl _ _).alloc (Nat.le_refl _) o).grown hg (by simp) (by intro k hk; simp [Value.ownBlock] at hk; omega)

end Go.Proofs.Ytipdflbnnmghdaa
