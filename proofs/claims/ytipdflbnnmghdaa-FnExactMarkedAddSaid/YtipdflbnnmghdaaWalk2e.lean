/- Chapter 2: the program's helpers that pad, trim and add. -/
import Derived.Test.YtipdflbnnmghdaaWalk2d
import Derived.Laws.CopyOwn
import Derived.StillTailTactics
namespace Go.Proofs.Ytipdflbnnmghdaa
open Go.RowKit
set_option maxRecDepth 100000

/-- k coefficients added from idx on -/
def addAtK (zs : List Int) (idx : Nat) (ys : List Int) (x : Int) : Nat → List Int
  | 0 => zs
  | k + 1 => (addAtK zs idx ys x k).set (idx + k) (((addAtK zs idx ys x k).getD (idx + k) 0 + ys.getD k 0 * x) % 113)
theorem addAtK_length (zs : List Int) (idx : Nat) (ys : List Int) (x : Int) (k : Nat) : (addAtK zs idx ys x k).length = zs.length := by
  induction k with
  | zero => rfl
  | succ k ih => simp only [addAtK, List.length_set, ih]
theorem getD_set (zs : List Int) (i j : Nat) (a : Int) : (zs.set i a).getD j 0 = if i = j ∧ j < zs.length then a else zs.getD j 0 := by
  simp only [List.getD_eq_getElem?_getD, List.getElem?_set]
  by_cases h : i = j
  · subst h
    by_cases h2 : i < zs.length <;> simp [h2]
  · simp [h]
theorem nums_set {zs : List Int} (h : Nums zs) (i : Nat) (a : Int) (h0 : 0 ≤ a) (h1 : a ≤ 112) : Nums (zs.set i a) := by
  intro j
  rw [getD_set]
  split
  · exact ⟨h0, h1⟩
  · exact h j
theorem nums_addAtK {zs : List Int} (h : Nums zs) (idx : Nat) (ys : List Int) (x : Int) (k : Nat) : Nums (addAtK zs idx ys x k) := by
  induction k with
  | zero => exact h
  | succ k ih => exact nums_set ih _ _ (by omega) (by omega)

theorem same_ {P : Program} {f : FuncId} {args : Array Value} {w : World} {v : Value} (h : Calls P f args w fun e w' => e = .returned v ∧ w = w') : Calls P f args w fun e w'' => e = .returned v ∧ w'' = w :=
  h.mono fun _ _ ⟨he, hm⟩ => ⟨he, hm.symm⟩

/-- zeros behind -/
def padL (zs : List Int) (m : Nat) : List Int := zs ++ List.replicate (m - zs.length) 0
theorem padL_get (zs : List Int) (m j : Nat) : (padL zs m).getD j 0 = zs.getD j 0 := by
  unfold padL
  by_cases h : j < zs.length
  · simp [List.getElem?_append_left h]
  · simp only [List.getD_eq_getElem?_getD, List.getElem?_append_right (show zs.length ≤ j by omega), List.getElem?_eq_none (show zs.length ≤ j by omega)]
    by_cases h2 : j - zs.length < m - zs.length
    · simp [h2]
    · simp [h2]
theorem padL_length (zs : List Int) (m : Nat) (h : zs.length ≤ m) : (padL zs m).length = m := by simp [padL]; omega
theorem nums_pad {zs : List Int} (h : Nums zs) (m : Nat) : Nums (padL zs m) := fun j => by rw [padL_get]; exact h j
theorem size1_int : ((Try.prog.info? 3).map (·.size)) = some 1 := by kernel_rfl
theorem splice_pad (zs : List Int) (m : Nat) : splice (List.replicate m (Value.int .i64 0)) 0 (cI zs) = cI (padL zs m) := by
  simp [splice, cI, padL]

/-- a cut at its end, whatever its capacity then -/
theorem Ow.cut {w : World} {lo hi e n c k c' : Nat} {A : Option Addr} {zs : List Int} (h : Ow w lo hi e 1 A n c (cI zs)) (hk : k ≤ n) (hc : k ≤ c') : Ow w lo hi e 1 A k c' (cI (zs.take k)) := by
  have hl := h.len
  refine ⟨by rw [cI_length, List.length_take]; omega, hc, ?_⟩
  rcases h.2.2 with h0 | ⟨g, cs, hA, h1, h2, hg, ht⟩
  · exact .inl (by omega)
  · refine .inr ⟨g, cs, hA, h1, h2, hg, ?_⟩
    have e : cI (zs.take k) = (cI zs).take k := by simp [cI, List.map_take]
    rw [e, ← ht, List.take_take, Nat.mul_one, Nat.mul_one, Nat.min_eq_left hk]

end Go.Proofs.Ytipdflbnnmghdaa
