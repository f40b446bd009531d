/- Arguments that are structs with lists, opened. -/
import Derived.Test.YthfkjaofgpgoeaaLaw
import Derived.Test.YthfkjaofgpgoeaaCircuit
import Derived.Test.YthfkjaofgpgoeaaPSS
import Derived.Lib.SmallJoins
import Derived.Test.YthfkjaofgpgoeaaFlat
namespace Go.Proofs.Ythfkjaofgpgoeaa
open Go.ChangeShapes Go.WideShapes Go.ChangeAt Go.RowKit
set_option maxRecDepth 100000

section
variable {H : Type} {enc : TypeId × Value → H} {P : Program} {w : World}
theorem row_lt {a : Addr} {K : Nat} {u : Value} (h : w.cell? (a.add K) = some u) : a.block < w.heap.size := by
  have := World.block_lt_of_cell? (a := a.add K) _ h
  rw [add_block] at this; exact this

/-- a list of structs of K ints -/
theorem open_flat (K : Nat) (hK : 0 < K) {t e : TypeId} {fs : Array Field} {fuel : Nat} {cs : List Value} {x : DataW H × List MemPlace} (ht : P.underlying t = some (.slice e)) (he : P.underlying e = some (.struct fs)) (ce : P.cellsOf e = K)
    (hf : ∀ j, j < K → ∃ f, fs[j]? = some f ∧ f.offset = j ∧ P.cellsOf f.type = 1 ∧ P.underlying f.type = some (.int .i64)) (h : DataW.trod enc P w 0 (fun _ => true) true fuel t cs = some x) :
    ∃ A n c, cs = [.slice A n c] ∧ n ≤ 9223372036854775807 ∧ (0 < n → ∃ a, A = some a ∧ a.block < w.heap.size) ∧ ∃ Z : Nat → Nat → Int, ∀ a, A = some a → ∀ i, i < n → ∀ j, j < K → w.cell? (a.add (i * K + j)) = some (.int .i64 (Z i j)) := by
  rcases Go.Deep.open_slice ht h with ⟨rfl, _⟩ | ⟨a, len, cap, m, n, D, Pl, rfl, _, hl, hm, hmm, _, hx⟩
  · exact ⟨_, _, _, rfl, by omega, fun h => by omega, fun _ _ => 0, fun a ha => by cases ha⟩
  · simp only [if_true] at hmm
    unfold maxLen at hm
    have each : ∀ i, i < len → ∃ z : Nat → Int, ∀ j, j < K → w.cell? (a.add (i * K + j)) = some (.int .i64 (z j)) := by
      intro i hi
      obtain ⟨cs', h1, h2⟩ := hx i (by omega)
      rw [ce] at h1
      obtain ⟨_, hlen, hcell⟩ := World.cells?_some h1
      obtain ⟨xs, k, hk, _, _, hxl, hf2⟩ := DataW.trod_struct he h2
      refine ⟨fun j => intOf (cs'.getD j undef), fun j hj => ?_⟩
      obtain ⟨f, f1, f2, f3, f4⟩ := hf j hj
      have g := hf2 j f f1
      have hjx : j < xs.length := by
        rw [hxl]
        exact (Array.getElem?_eq_some_iff.1 f1).1
      rw [f2, f3, List.getElem?_eq_getElem hjx] at g
      have hjl : j < cs'.length := by omega
      have e0 : cs'[j]? = some (cs'.getD j undef) := by rw [List.getD_eq_getElem?_getD, List.getElem?_eq_getElem hjl]; rfl
      have e1 : (cs'.drop j).take 1 = [cs'.getD j undef] := by
        rw [List.drop_eq_getElem_cons hjl, List.take_succ_cons, List.take_zero, List.getD_eq_getElem?_getD, List.getElem?_eq_getElem hjl]; rfl
      rw [e1] at g
      obtain ⟨z, e2, _⟩ := DataW.trod_int f4 g
      have e3 : cs'.getD j undef = .int .i64 z := by injection e2
      have e4 := hcell j hj
      rw [Go.Deep.add_add] at e4
      rw [e4, e0]
      show some (cs'.getD j undef) = some (.int .i64 (intOf (cs'.getD j undef)))
      rw [e3]; rfl
    obtain ⟨Z, hZ⟩ := Go.Deep.choose_lt each
    refine ⟨some a, len, cap, rfl, by omega, fun h0 => ⟨a, rfl, row_lt (hZ 0 h0 0 hK)⟩, Z, fun b hb i hi j hj => ?_⟩
    injection hb with hb; subst hb
    exact hZ i hi j hj

theorem field_GateS {t e : TypeId} {f0 f1 f2 : Field} {n : Nat} {u : Value} {y : DataW H × List MemPlace} (ht : P.underlying t = some (.slice e)) (he : P.underlying e = some (.struct #[f0, f1, f2])) (ce : P.cellsOf e = 3)
    (o0 : f0.offset = 0) (o1 : f1.offset = 1) (o2 : f2.offset = 2) (c0 : P.cellsOf f0.type = 1) (c1 : P.cellsOf f1.type = 1) (c2 : P.cellsOf f2.type = 1) (t0 : P.underlying f0.type = some (.int .i64)) (t1 : P.underlying f1.type = some (.int .i64)) (t2 : P.underlying f2.type = some (.int .i64))
    (h : DataW.trod enc P w 0 (fun _ => true) true n t [u] = some y) : ∃ A n c d, u = .slice A n c ∧ RdGateS w w.heap.size (.slice A n c) d := by
  obtain ⟨A, n, c, hu, hn, hb, Z, hZ⟩ := open_flat 3 (by omega) ht he ce (fun j hj => by
    match j, hj with
    | 0, _ => exact ⟨f0, rfl, o0, c0, t0⟩
    | 1, _ => exact ⟨f1, rfl, o1, c1, t1⟩
    | 2, _ => exact ⟨f2, rfl, o2, c2, t2⟩) h
  refine ⟨A, n, c, (List.range n).map fun i => (Z i 0, Z i 1, Z i 2), by simpa using hu, A, n, c, rfl, hn, by rw [cGate_length]; simp, fun h0 => ?_⟩
  obtain ⟨a, rfl, hab⟩ := hb h0
  refine ⟨a, rfl, hab, fun j v hv => ?_⟩
  have hj : j < n * 3 := by
    have := (List.getElem?_eq_some_iff.1 hv).1
    rw [cGate_length] at this; simpa using this
  have h2 : j = (j / 3) * 3 + 0 ∨ j = (j / 3) * 3 + 1 ∨ j = (j / 3) * 3 + 2 := by omega
  have hk : j / 3 < n := by omega
  generalize j / 3 = k at h2 hk
  rcases h2 with rfl | rfl | rfl
  · rw [hZ a rfl k hk 0 (by omega), ← hv, Nat.add_zero, cGate_get0 _ _ (by simpa using hk)]; simp [hk]
  · rw [hZ a rfl k hk 1 (by omega), ← hv, cGate_get1 _ _ (by simpa using hk)]; simp [hk]
  · rw [hZ a rfl k hk 2 (by omega), ← hv, cGate_get2 _ _ (by simpa using hk)]; simp [hk]

theorem field_IntS {t e : TypeId} {n : Nat} {u : Value} {y : DataW H × List MemPlace} (ht : P.underlying t = some (.slice e)) (he : P.underlying e = some (.int .i64)) (hc : P.cellsOf e = 1)
    (h : DataW.trod enc P w 0 (fun _ => true) true n t [u] = some y) : ∃ A n c d, u = .slice A n c ∧ RdIntS w w.heap.size (.slice A n c) d := by
  rcases open_ints ht he hc h with ⟨hn, _⟩ | ⟨a, len, cap, zs, hs, _, hlc, hm, hlen, _, hcell, _⟩
  · have : u = .slice none 0 0 := by simpa using hn
    exact ⟨_, _, _, [], this, _, _, _, rfl, by omega, by simp [cI], fun h => by omega⟩
  · have : u = .slice (some a) len cap := by simpa using hs
    simp only [if_true] at hlen
    unfold maxLen at hm
    refine ⟨_, _, _, zs.take len, this, _, _, _, rfl, by omega, by rw [cI_length, List.length_take]; omega, fun hn => ⟨a, rfl, row_lt (hcell 0 (by omega)), fun j v hv => ?_⟩⟩
    have hj : j < len := by
      have := (List.getElem?_eq_some_iff.1 hv).1
      rw [cI_length, List.length_take] at this; omega
    rw [hcell j (by omega), ← hv, cI_get _ _ (by rw [List.length_take]; omega)]
    simp [hj]

theorem field_PointS {t e : TypeId} {f0 f1 : Field} {n : Nat} {u : Value} {y : DataW H × List MemPlace} (ht : P.underlying t = some (.slice e)) (he : P.underlying e = some (.struct #[f0, f1])) (ce : P.cellsOf e = 2)
    (o0 : f0.offset = 0) (o1 : f1.offset = 1) (c0 : P.cellsOf f0.type = 1) (c1 : P.cellsOf f1.type = 1) (t0 : P.underlying f0.type = some (.int .i64)) (t1 : P.underlying f1.type = some (.int .i64))
    (h : DataW.trod enc P w 0 (fun _ => true) true n t [u] = some y) : ∃ A n c d, u = .slice A n c ∧ RdPointS w w.heap.size (.slice A n c) d := by
  obtain ⟨A, n, c, hu, hn, hb, Z, hZ⟩ := open_flat 2 (by omega) ht he ce (fun j hj => by
    match j, hj with
    | 0, _ => exact ⟨f0, rfl, o0, c0, t0⟩
    | 1, _ => exact ⟨f1, rfl, o1, c1, t1⟩) h
  refine ⟨A, n, c, (List.range n).map fun i => (Z i 0, Z i 1), by simpa using hu, A, n, c, rfl, hn, by rw [cP_length]; simp, fun h0 => ?_⟩
  obtain ⟨a, rfl, hab⟩ := hb h0
  refine ⟨a, rfl, hab, fun j v hv => ?_⟩
  have hj : j < n * 2 := by
    have := (List.getElem?_eq_some_iff.1 hv).1
    rw [cP_length] at this; simpa using this
  have h2 : j = (j / 2) * 2 + 0 ∨ j = (j / 2) * 2 + 1 := by omega
  have hk : j / 2 < n := by omega
  generalize j / 2 = k at h2 hk
  rcases h2 with rfl | rfl
  · rw [hZ a rfl k hk 0 (by omega), ← hv, Nat.add_zero, cP_get1 _ _ (by simpa using hk)]; simp [hk]
  · rw [hZ a rfl k hk 1 (by omega), ← hv, cP_get2 _ _ (by simpa using hk)]; simp [hk]

theorem field_PointSS {t t' e : TypeId} {f0 f1 : Field} {n : Nat} {u : Value} {y : DataW H × List MemPlace} (ht : P.underlying t = some (.slice t')) (ct : P.cellsOf t' = 1) (ht' : P.underlying t' = some (.slice e)) (he : P.underlying e = some (.struct #[f0, f1])) (ce : P.cellsOf e = 2)
    (o0 : f0.offset = 0) (o1 : f1.offset = 1) (c0 : P.cellsOf f0.type = 1) (c1 : P.cellsOf f1.type = 1) (t0 : P.underlying f0.type = some (.int .i64)) (t1 : P.underlying f1.type = some (.int .i64))
    (h : DataW.trod enc P w 0 (fun _ => true) true n t [u] = some y) : ∃ A n c d, u = .slice A n c ∧ RdPointSS w w.heap.size (.slice A n c) d := by
  rcases Go.Deep.open_slice ht h with ⟨hu, _⟩ | ⟨a, len, cap, m, n, D, Pl, hu, _, hl, hm, hmm, _, hx⟩
  · have : u = .slice none 0 0 := by simpa using hu
    exact ⟨_, _, _, [], this, _, _, _, [], rfl, by omega, ⟨rfl, fun h => by omega⟩, rfl, fun i hi => by omega⟩
  · have hu2 : u = .slice (some a) len cap := by simpa using hu
    simp only [if_true] at hmm
    unfold maxLen at hm
    have each : ∀ i, i < len → ∃ q : Value × List (Int × Int), w.cell? (a.add i) = some q.1 ∧ RdPointS w w.heap.size q.1 q.2 := by
      intro i hi
      obtain ⟨cs', h1, h2⟩ := hx i (by omega)
      rw [ct] at h1
      obtain ⟨_, hlen, hcell⟩ := World.cells?_some h1
      match cs', hlen with
      | [v], _ =>
        obtain ⟨A, n, c, d, rfl, r⟩ := field_PointS ht' he ce o0 o1 c0 c1 t0 t1 h2
        refine ⟨(_, d), ?_, r⟩
        have := hcell 0 (by omega)
        rw [Nat.mul_one, Go.Deep.add_add, Nat.add_zero] at this
        simpa using this
    obtain ⟨q, hq⟩ := Go.Deep.choose_lt each
    refine ⟨_, _, _, (List.range len).map fun i => (q i).2, hu2, _, _, _, (List.range len).map fun i => (q i).1, rfl, by omega, ⟨by simp, fun h0 => ⟨a, rfl, row_lt (hq 0 h0).1, fun j v hv => ?_⟩⟩, by simp, fun i hi => ?_⟩
    · have hj : j < len := by
        have := (List.getElem?_eq_some_iff.1 hv).1
        simpa using this
      simp [hj] at hv
      rw [← hv]; exact (hq j hj).1
    · simp only [List.getD_eq_getElem?_getD, List.getElem?_map, List.getElem?_range hi, Option.map_some, Option.getD_some]
      exact (hq i hi).2
end
end Go.Proofs.Ythfkjaofgpgoeaa
