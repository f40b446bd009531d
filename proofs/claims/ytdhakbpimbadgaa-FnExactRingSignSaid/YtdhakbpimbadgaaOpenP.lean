/- Arguments that are lists of structs of ints, opened. Made by tools/openflat.py. -/
import Derived.Test.YtdhakbpimbadgaaLaw
import Derived.Test.YtdhakbpimbadgaaFProof
import Derived.Test.YtdhakbpimbadgaaFTwin
import Derived.Lib.SmallJoins
namespace Go.Proofs.Ytdhakbpimbadgaa
open Go.ChangeShapes Go.WideShapes Go.ChangeAt Go.RowKit
set_option maxRecDepth 100000

section
variable {H : Type} {enc : TypeId × Value → H} {P : Program} {w : World}
theorem row_lt3 {a : Addr} {K : Nat} {u : Value} (h : w.cell? (a.add K) = some u) : a.block < w.heap.size := by
  have := World.block_lt_of_cell? (a := a.add K) _ h
  rw [add_block] at this; exact this
theorem open_ProofS {b0 : Nat} {t e : TypeId} {r : Reach} {v : Value} {d : DataW H} {ps : List MemPlace} {f0 f1 f2 : Field} (ht : P.underlying t = some (.slice e)) (he : P.underlying e = some (.struct #[f0, f1, f2])) (ce : P.cellsOf e = 3)
    (o0 : f0.offset = 0) (o1 : f1.offset = 1) (o2 : f2.offset = 2) (c0 : P.cellsOf f0.type = 1) (c1 : P.cellsOf f1.type = 1) (c2 : P.cellsOf f2.type = 1) (t0 : P.underlying f0.type = some (.int .i64)) (t1 : P.underlying f1.type = some (.int .i64)) (t2 : P.underlying f2.type = some (.int .i64))
    (hv : Value.okWide P w r b0 t v) (h : DataW.Trod enc P w 0 (fun _ => true) true t v d ps) :
    ∃ A n c zs, v = .slice A n c ∧ n ≤ 9223372036854775807 ∧ Rd w w.heap.size 3 A n (cProof zs) := by
  obtain ⟨A, n, c, rfl⟩ : ∃ A n c, v = .slice A n c := by
    cases v <;> simp [Value.okWide, ht, Cell.okWide, Cell.ok] at hv
    exact ⟨_, _, _, rfl⟩
  obtain ⟨fuel, hf⟩ := h
  rcases Go.Deep.open_slice ht hf with ⟨hn, _⟩ | ⟨a, len, cap, m, n', D, Pl, hs, _, hl, hm, hmm, _, hx⟩
  · simp [Value.cells] at hn
    obtain ⟨rfl, rfl, rfl⟩ := hn
    exact ⟨_, _, _, [], rfl, by omega, by simp [cProof], fun h => by omega⟩
  · simp [Value.cells] at hs
    obtain ⟨rfl, rfl, rfl⟩ := hs
    simp only [if_true] at hmm
    unfold maxLen at hm
    have each : ∀ i, i < n → ∃ z : Int × Int × Int, w.cell? (a.add (i * 3)) = some (.int .i64 z.1) ∧ w.cell? (a.add (i * 3 + 1)) = some (.int .i64 z.2.1) ∧ w.cell? (a.add (i * 3 + 2)) = some (.int .i64 z.2.2) := by
      intro i hi
      obtain ⟨cs', h1, h2⟩ := hx i (by omega)
      rw [ce] at h1
      obtain ⟨_, hlen, hcell⟩ := World.cells?_some h1
      obtain ⟨xs, k, hk, _, _, hxl, hf2⟩ := DataW.trod_struct he h2
      have one : ∀ j, j < 3 → ∃ u, (cs'.drop j).take 1 = [u] ∧ w.cell? (a.add (i * 3 + j)) = some u := by
        intro j hj
        have hjl : j < cs'.length := by omega
        refine ⟨cs'[j], ?_, ?_⟩
        · rw [List.drop_eq_getElem_cons hjl, List.take_succ_cons, List.take_zero]
        · have e4 := hcell j hj
          rw [Go.Deep.add_add] at e4
          rw [e4, List.getElem?_eq_getElem hjl]
      obtain ⟨u0, s0, q0⟩ := one 0 (by omega)
      obtain ⟨u1, s1, q1⟩ := one 1 (by omega)
      obtain ⟨u2, s2, q2⟩ := one 2 (by omega)
      have hx3 : xs.length = 3 := by simpa using hxl
      have g0 := hf2 0 f0 rfl
      rw [o0, c0, s0, List.getElem?_eq_getElem (by omega)] at g0
      obtain ⟨y0, e0, _⟩ := DataW.trod_int t0 g0
      have g1 := hf2 1 f1 rfl
      rw [o1, c1, s1, List.getElem?_eq_getElem (by omega)] at g1
      obtain ⟨y1, e1, _⟩ := DataW.trod_int t1 g1
      have g2 := hf2 2 f2 rfl
      rw [o2, c2, s2, List.getElem?_eq_getElem (by omega)] at g2
      obtain ⟨y2, e2, _⟩ := DataW.trod_int t2 g2
      injection e0 with e0
      injection e1 with e1
      injection e2 with e2
      subst e0 e1 e2
      exact ⟨(y0, y1, y2), q0, q1, q2⟩
    obtain ⟨Z, hZ⟩ := Go.Deep.choose_lt each
    refine ⟨_, _, _, (List.range n).map Z, rfl, by omega, by rw [cProof_length]; simp, fun h0 => ⟨a, rfl, row_lt3 (hZ 0 h0).1, fun j u hu => ?_⟩⟩
    have hj : j < n * 3 := by
      have := (List.getElem?_eq_some_iff.1 hu).1
      rw [cProof_length] at this; simpa using this
    obtain ⟨k, hkd⟩ : ∃ k, j / 3 = k := ⟨_, rfl⟩
    have h2 : j = k * 3 ∨ j = k * 3 + 1 ∨ j = k * 3 + 2 := by omega
    have hk : k < n := by omega
    have hkl : k < ((List.range n).map Z).length := by simpa using hk
    have gd : ((List.range n).map Z).getD k (0, 0, 0) = Z k := by simp [hk]
    obtain ⟨z0, z1, z2⟩ := hZ k hk
    clear hkd
    rcases h2 with rfl | rfl | rfl
    · rw [cProof_get0 _ _ hkl, gd] at hu; rw [z0, ← hu]
    · rw [cProof_get1 _ _ hkl, gd] at hu; rw [z1, ← hu]
    · rw [cProof_get2 _ _ hkl, gd] at hu; rw [z2, ← hu]
theorem open_TwinS {b0 : Nat} {t e : TypeId} {r : Reach} {v : Value} {d : DataW H} {ps : List MemPlace} {f0 f1 f2 f3 : Field} (ht : P.underlying t = some (.slice e)) (he : P.underlying e = some (.struct #[f0, f1, f2, f3])) (ce : P.cellsOf e = 4)
    (o0 : f0.offset = 0) (o1 : f1.offset = 1) (o2 : f2.offset = 2) (o3 : f3.offset = 3) (c0 : P.cellsOf f0.type = 1) (c1 : P.cellsOf f1.type = 1) (c2 : P.cellsOf f2.type = 1) (c3 : P.cellsOf f3.type = 1) (t0 : P.underlying f0.type = some (.int .i64)) (t1 : P.underlying f1.type = some (.int .i64)) (t2 : P.underlying f2.type = some (.int .i64)) (t3 : P.underlying f3.type = some (.int .i64))
    (hv : Value.okWide P w r b0 t v) (h : DataW.Trod enc P w 0 (fun _ => true) true t v d ps) :
    ∃ A n c zs, v = .slice A n c ∧ n ≤ 9223372036854775807 ∧ Rd w w.heap.size 4 A n (cTwin zs) := by
  obtain ⟨A, n, c, rfl⟩ : ∃ A n c, v = .slice A n c := by
    cases v <;> simp [Value.okWide, ht, Cell.okWide, Cell.ok] at hv
    exact ⟨_, _, _, rfl⟩
  obtain ⟨fuel, hf⟩ := h
  rcases Go.Deep.open_slice ht hf with ⟨hn, _⟩ | ⟨a, len, cap, m, n', D, Pl, hs, _, hl, hm, hmm, _, hx⟩
  · simp [Value.cells] at hn
    obtain ⟨rfl, rfl, rfl⟩ := hn
    exact ⟨_, _, _, [], rfl, by omega, by simp [cTwin], fun h => by omega⟩
  · simp [Value.cells] at hs
    obtain ⟨rfl, rfl, rfl⟩ := hs
    simp only [if_true] at hmm
    unfold maxLen at hm
    have each : ∀ i, i < n → ∃ z : Int × Int × Int × Int, w.cell? (a.add (i * 4)) = some (.int .i64 z.1) ∧ w.cell? (a.add (i * 4 + 1)) = some (.int .i64 z.2.1) ∧ w.cell? (a.add (i * 4 + 2)) = some (.int .i64 z.2.2.1) ∧ w.cell? (a.add (i * 4 + 3)) = some (.int .i64 z.2.2.2) := by
      intro i hi
      obtain ⟨cs', h1, h2⟩ := hx i (by omega)
      rw [ce] at h1
      obtain ⟨_, hlen, hcell⟩ := World.cells?_some h1
      obtain ⟨xs, k, hk, _, _, hxl, hf2⟩ := DataW.trod_struct he h2
      have one : ∀ j, j < 4 → ∃ u, (cs'.drop j).take 1 = [u] ∧ w.cell? (a.add (i * 4 + j)) = some u := by
        intro j hj
        have hjl : j < cs'.length := by omega
        refine ⟨cs'[j], ?_, ?_⟩
        · rw [List.drop_eq_getElem_cons hjl, List.take_succ_cons, List.take_zero]
        · have e4 := hcell j hj
          rw [Go.Deep.add_add] at e4
          rw [e4, List.getElem?_eq_getElem hjl]
      obtain ⟨u0, s0, q0⟩ := one 0 (by omega)
      obtain ⟨u1, s1, q1⟩ := one 1 (by omega)
      obtain ⟨u2, s2, q2⟩ := one 2 (by omega)
      obtain ⟨u3, s3, q3⟩ := one 3 (by omega)
      have hx3 : xs.length = 4 := by simpa using hxl
      have g0 := hf2 0 f0 rfl
      rw [o0, c0, s0, List.getElem?_eq_getElem (by omega)] at g0
      obtain ⟨y0, e0, _⟩ := DataW.trod_int t0 g0
      have g1 := hf2 1 f1 rfl
      rw [o1, c1, s1, List.getElem?_eq_getElem (by omega)] at g1
      obtain ⟨y1, e1, _⟩ := DataW.trod_int t1 g1
      have g2 := hf2 2 f2 rfl
      rw [o2, c2, s2, List.getElem?_eq_getElem (by omega)] at g2
      obtain ⟨y2, e2, _⟩ := DataW.trod_int t2 g2
      have g3 := hf2 3 f3 rfl
      rw [o3, c3, s3, List.getElem?_eq_getElem (by omega)] at g3
      obtain ⟨y3, e3, _⟩ := DataW.trod_int t3 g3
      injection e0 with e0
      injection e1 with e1
      injection e2 with e2
      injection e3 with e3
      subst e0 e1 e2 e3
      exact ⟨(y0, y1, y2, y3), q0, q1, q2, q3⟩
    obtain ⟨Z, hZ⟩ := Go.Deep.choose_lt each
    refine ⟨_, _, _, (List.range n).map Z, rfl, by omega, by rw [cTwin_length]; simp, fun h0 => ⟨a, rfl, row_lt3 (hZ 0 h0).1, fun j u hu => ?_⟩⟩
    have hj : j < n * 4 := by
      have := (List.getElem?_eq_some_iff.1 hu).1
      rw [cTwin_length] at this; simpa using this
    obtain ⟨k, hkd⟩ : ∃ k, j / 4 = k := ⟨_, rfl⟩
    have h2 : j = k * 4 ∨ j = k * 4 + 1 ∨ j = k * 4 + 2 ∨ j = k * 4 + 3 := by omega
    have hk : k < n := by omega
    have hkl : k < ((List.range n).map Z).length := by simpa using hk
    have gd : ((List.range n).map Z).getD k (0, 0, 0, 0) = Z k := by simp [hk]
    obtain ⟨z0, z1, z2, z3⟩ := hZ k hk
    clear hkd
    rcases h2 with rfl | rfl | rfl | rfl
    · rw [cTwin_get0 _ _ hkl, gd] at hu; rw [z0, ← hu]
    · rw [cTwin_get1 _ _ hkl, gd] at hu; rw [z1, ← hu]
    · rw [cTwin_get2 _ _ hkl, gd] at hu; rw [z2, ← hu]
    · rw [cTwin_get3 _ _ hkl, gd] at hu; rw [z3, ← hu]
end
end Go.Proofs.Ytdhakbpimbadgaa
