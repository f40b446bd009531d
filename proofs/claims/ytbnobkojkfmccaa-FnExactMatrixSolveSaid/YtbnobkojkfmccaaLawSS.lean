/- An argument of type [][]int opened. -/
import Derived.Test.YtbnobkojkfmccaaLaw
import Derived.Test.YtbnobkojkfmccaaSS2
import Derived.Deep.Matrix
namespace Go.Proofs.Ytbnobkojkfmccaa
open Go.ChangeShapes Go.WideShapes Go.ChangeAt Go.RowKit

theorem open_intSS {H : Type} {enc : TypeId × Value → H} {P : Program} {w : World} {b0 : Nat} {t e q : TypeId} {r : Reach} {v : Value} {d : DataW H} {ps : List MemPlace} (ht : P.underlying t = some (.slice e)) (he : P.underlying e = some (.slice q)) (hq : P.underlying q = some (.int .i64)) (ce : P.cellsOf e = 1) (cq : P.cellsOf q = 1)
    (hv : Value.okWide P w r b0 t v) (h : DataW.Trod enc P w 0 (fun _ => true) true t v d ps) :
    ∃ A n c vs ds, v = .slice A n c ∧ n ≤ 9223372036854775807 ∧ RdR w w.heap.size A n vs ds := by
  obtain ⟨A, n, c, rfl⟩ : ∃ A n c, v = .slice A n c := by
    cases v <;> simp [Value.okWide, ht, Cell.okWide, Cell.ok] at hv
    exact ⟨_, _, _, rfl⟩
  obtain ⟨fuel, hf⟩ := h
  rcases Go.Deep.open_int_rows ht he hq ce cq hf with ⟨hn, _⟩ | ⟨a, len, cap, Ar, L, C, Z, hs, _, hlc, hm, _, hcell⟩
  · simp [Value.cells] at hn
    obtain ⟨rfl, rfl, rfl⟩ := hn
    exact ⟨_, _, _, [], [], rfl, by omega, ⟨by simp, fun h => by omega⟩, rfl, fun i hi => by omega⟩
  · simp [Value.cells] at hs
    obtain ⟨rfl, rfl, rfl⟩ := hs
    unfold maxLen at hm
    refine ⟨_, _, _, (List.range n).map fun i => .slice (Ar i) (L i) (C i), (List.range n).map fun i => (Z i).take (L i), rfl, by omega, ⟨by simp, fun h0 => ⟨a, rfl, ?_, fun j u hu => ?_⟩⟩, by simp, fun i hi => ?_⟩
    · have := World.block_lt_of_cell? (a := a.add 0) _ (hcell 0 (by omega)).1
      exact this
    · have hj : j < n := by
        have := (List.getElem?_eq_some_iff.1 hu).1
        simpa using this
      have e : ((List.range n).map fun i => Value.slice (Ar i) (L i) (C i))[j]? = some (.slice (Ar j) (L j) (C j)) := by simp [hj]
      rw [e] at hu; injection hu with hu
      rw [← hu]; exact (hcell j (by omega)).1
    · obtain ⟨_, h2, h3, h4, _, _, h7⟩ := hcell i (by omega)
      unfold maxLen at h3
      have e1 : ((List.range n).map fun i => Value.slice (Ar i) (L i) (C i)).getD i undef = .slice (Ar i) (L i) (C i) := by simp [hi]
      have e2 : ((List.range n).map fun i => (Z i).take (L i)).getD i [] = (Z i).take (L i) := by simp [hi]
      rw [e1, e2]
      refine ⟨_, _, _, rfl, by omega, by rw [cI_length, List.length_take]; omega, fun hl => ?_⟩
      cases hA : Ar i with
      | none => have := (hcell i (by omega)).2.2.2.2.2.1 hA; omega
      | some a' =>
        obtain ⟨_, hc⟩ := h7 a' hA
        refine ⟨a', rfl, ?_, fun j u hu => ?_⟩
        · have := World.block_lt_of_cell? (a := a'.add 0) _ (hc 0 (by omega))
          exact this
        · have hj : j < L i := by
            have := (List.getElem?_eq_some_iff.1 hu).1
            rw [cI_length, List.length_take] at this; omega
          rw [cI_get _ _ (by rw [List.length_take]; omega)] at hu
          injection hu with hu
          rw [← hu, hc j (by omega)]
          simp [hj]
end Go.Proofs.Ytbnobkojkfmccaa
