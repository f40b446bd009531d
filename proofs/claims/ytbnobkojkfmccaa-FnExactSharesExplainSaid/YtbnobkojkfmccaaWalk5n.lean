/- Chapter 4: SharesOf in the model. -/
import Derived.Test.YtbnobkojkfmccaaWalk5h
import Derived.Test.YtbnobkojkfmccaaWalk3a
namespace Go.Proofs.Ytbnobkojkfmccaa
open Go.RowKit Go.Shelf
set_option maxRecDepth 100000

def shF (cs : List Int) (i : Nat) : Int × Int := ((i : Int) + 1, atI cs ((i : Int) + 1))
def ofB (s n : Int) (t : List Int) : Bool := numB s && (numsB t && (inB n 1 7 && decide ((t.length : Int) < n)))
def R_SharesOf_1 (s n : Int) (t : List Int) : Bool := ofB s n t
def R_SharesOf_0 (s n : Int) (t : List Int) : List (Int × Int) := if ofB s n t = true then uptoF (shF (s :: t)) n.toNat else []
theorem of_no {s n : Int} {t : List Int} (h : ofB s n t = false) : Hid (R_SharesOf_1 s n t = false ∧ R_SharesOf_0 s n t = []) := Lib.hid ⟨h, by unfold R_SharesOf_0; rw [h]; rfl⟩
theorem nums_cons {s : Int} {t : List Int} (h : 0 ≤ s ∧ s ≤ 112) (ht : Nums t) : Nums (s :: t) := fun j => by
  cases j with
  | zero => exact h
  | succ j => exact ht j
theorem lit_int (w : World) (s : Int) : (w.alloc (.cells #[.int .i64 s] 3)).ownsRow w.heap.size 3 1 (.slice (some ⟨w.heap.size, 0, none⟩) 1 1) 1 [.int .i64 s] :=
  ⟨rfl, .inr ⟨w.heap.size, 1, _, rfl, Nat.le_refl _, heap_alloc_new _ _, Nat.le_refl _, by unfold maxLen; omega, rfl, rfl⟩⟩
/-- another row is none of this type's blocks -/
theorem own_other {w : World} {B e t n s g : Nat} {v : Value} {xs : List Value} {cs : Array Value} (h : w.ownsRow B e s v n xs) (hte : e ≠ t) (hg : w.heap[g]? = some (.cells cs t (0, 0))) : v.ownBlock ≠ some g := by
  intro e1
  rcases h.2 with ⟨rfl, _⟩ | ⟨g', cap, cur, rfl, _, hh, _⟩
  · simp [Value.ownBlock] at e1
  · simp [Value.ownBlock] at e1
    subst e1
    rw [hg] at hh; injection hh with hh; injection hh with _ ht
    exact hte ht.symm

end Go.Proofs.Ytbnobkojkfmccaa
