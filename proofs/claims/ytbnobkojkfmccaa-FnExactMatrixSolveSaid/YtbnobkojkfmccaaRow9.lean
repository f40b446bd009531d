/- Rows of nine ints as whole values: loaded and stored in one. -/
import Derived.Test.YtbnobkojkfmccaaMath3c
import Derived.Laws.Cells
import Derived.Laws.CopyRow
import Derived.Deep.MidRow
import Derived.StillTailTactics
namespace Go.Proofs.Ytbnobkojkfmccaa
open Go.RowKit
set_option maxRecDepth 100000

/-- a row as the cells of one value -/
def rv (x : List Int) : Array Value := (cI x).toArray
theorem rv_toList (x : List Int) : (rv x).toList = cI x := by simp [rv]
theorem rv_size (x : List Int) : (rv x).size = x.length := by simp [rv, cI]
theorem rv_one (x : List Int) : ∀ u ∈ (rv x).toList, u.oneCell' = true := by rw [rv_toList]; exact ints_oneCell .i64 x
/-- rows one behind another -/
def cR (ps : List (List Int)) : List Value := ps.flatMap cI
def W9 (ps : List (List Int)) : Prop := ∀ k, k < ps.length → (ps.getD k []).length = 9
theorem W9.tail {p : List Int} {t : List (List Int)} (h : W9 (p :: t)) : W9 t := fun k hk => by have := h (k + 1) (by simp; omega); simpa using this
theorem W9.head {p : List Int} {t : List (List Int)} (h : W9 (p :: t)) : p.length = 9 := by have := h 0 (by simp); simpa using this
theorem cR_cons (p : List Int) (t : List (List Int)) : cR (p :: t) = cI p ++ cR t := rfl
theorem cR_length {ps : List (List Int)} (h : W9 ps) : (cR ps).length = ps.length * 9 := by
  induction ps with
  | nil => rfl
  | cons p t ih => rw [cR_cons, List.length_append, ih h.tail, cI_length, h.head, List.length_cons]; omega
theorem cR_get {ps : List (List Int)} (h : W9 ps) (k j : Nat) (hk : k < ps.length) (hj : j < 9) : (cR ps)[k * 9 + j]? = some (.int .i64 ((ps.getD k []).getD j 0)) := by
  induction ps generalizing k with
  | nil => simp at hk
  | cons p t ih =>
    have hp := h.head
    cases k with
    | zero => rw [cR_cons, List.getElem?_append_left (by rw [cI_length]; omega), Nat.zero_mul, Nat.zero_add]; exact cI_get p j (by omega)
    | succ k =>
      rw [cR_cons, List.getElem?_append_right (by rw [cI_length]; omega), cI_length, hp, show (k + 1) * 9 + j - 9 = k * 9 + j by omega, ih h.tail k (by simpa using hk)]; rfl
theorem W9.set {ps : List (List Int)} (h : W9 ps) (k : Nat) {x : List Int} (hx : x.length = 9) : W9 (ps.set k x) := fun i hi => by
  rw [List.length_set] at hi
  by_cases hk : k < ps.length
  · rw [getD_set1 _ _ _ _ _ hk]
    split
    · exact hx
    · exact h i hi
  · rw [List.set_eq_of_length_le (by omega)]; exact h i hi
/-- one row replaced, in the cells -/
theorem cR_set {ps : List (List Int)} (h : W9 ps) (k : Nat) (x : List Int) (_hx : x.length = 9) (hk : k < ps.length) : (cR ps).take (k * 9) ++ cI x ++ (cR ps).drop (k * 9 + 9) = cR (ps.set k x) := by
  induction ps generalizing k with
  | nil => simp at hk
  | cons p t ih =>
    have hp := h.head
    cases k with
    | zero =>
      rw [cR_cons, Nat.zero_mul, Nat.zero_add, List.set_cons_zero, cR_cons, List.take_zero, List.nil_append]
      rw [List.drop_append_of_le_length (by rw [cI_length]; omega), List.drop_of_length_le (by rw [cI_length]; omega), List.nil_append]
    | succ k =>
      have ih2 := ih h.tail k (by simpa using hk)
      rw [cR_cons, List.set_cons_succ, cR_cons, ← ih2]
      rw [show (k + 1) * 9 = (cI p).length + k * 9 by rw [cI_length]; omega, List.take_length_add_append, show (cI p).length + k * 9 + 9 = (cI p).length + (k * 9 + 9) by omega, List.drop_length_add_append]
      simp [List.append_assoc]

section
variable {P : Program} {w w' : World} {lo hi e n c g o k : Nat} {cs : Array Value} {x : List Int} {ps : List (List Int)}
theorem add_off (g o j : Nat) : (⟨g, o, none⟩ : Addr).add j = ⟨g, o + j, none⟩ := by unfold Addr.add; split <;> simp_all
theorem ld_at (hx : x.length = 9) (hc : ∀ j, j < 9 → w.cell? ⟨g, o + j, none⟩ = some (.int .i64 (x.getD j 0))) : (loadCellsFrom ⟨g, o, none⟩ 0 9 #[]).run P w = .ok (rv x) w := by
  have := run_loadCells_list (P := P) w ⟨g, o, none⟩ (cI x) (fun j v hv => by
    have hj : j < 9 := by have := (List.getElem?_eq_some_iff.1 hv).1; rw [cI_length] at this; omega
    rw [add_off, hc j hj, ← hv, cI_get x j (by omega)])
  rw [cI_length, hx] at this
  simpa [loadCells, rv] using this
/-- the row laid over a stretch of a block -/
theorem st_at (hb : w.heap[g]? = some (.cells cs e (0, 0))) (ho : o + 9 ≤ cs.size) (hx : x.length = 9) :
    (storeCells ⟨g, o, none⟩ (rv x).toList 0).run P w = .ok () (w.setRow g (cs.toList.take o ++ cI x ++ cs.toList.drop (o + 9)).toArray) := by
  have := run_storeCells_at (P := P) g o e (rv x).toList 0 cs w hb (by rw [rv_toList, cI_length]; omega) (rv_one x)
  rw [this, rv_toList, cI_length, hx]; rfl
theorem kept_setRow (w : World) (g : Nat) (cs : Array Value) : Kept g (g + 1) w (w.setRow g cs) :=
  ⟨rfl, rfl, rfl, by simp, fun k _ hn => setRow_other w g k cs (by omega)⟩
/-- a variable of nine -/
theorem Ow.ld9 (h : Ow w lo hi e 1 (some ⟨g, 0, none⟩) 9 c (cI x)) : (loadCellsFrom ⟨g, 0, none⟩ 0 9 #[]).run P w = .ok (rv x) w := by
  have hl := h.len
  refine ld_at hl fun j hj => ?_
  rw [Nat.zero_add]; exact h.cellAt (cI_get x j (by omega))
theorem Ow.st9 {y : List Int} (h : Ow w lo hi e 1 (some ⟨g, 0, none⟩) 9 c (cI y)) (hx : x.length = 9) :
    ∃ w', (storeCells ⟨g, 0, none⟩ (rv x).toList 0).run P w = .ok () w' ∧ Ow w' lo hi e 1 (some ⟨g, 0, none⟩) 9 c (cI x) ∧ Kept g (g + 1) w w' ∧ w'.heap.size = w.heap.size := by
  have hl := h.len
  obtain ⟨g', cs, hA, h1, h2, hb, ht⟩ := h.lt (by omega)
  injection hA with hA; injection hA with hA; subst hA
  have hs : 9 ≤ cs.size := by
    have : (cs.toList.take (9 * 1)).length = 9 := by rw [ht, cI_length]; exact hl
    rw [List.length_take] at this; simp at this; omega
  refine ⟨_, st_at hb (by omega) hx, ⟨by rw [cI_length]; omega, h.2.1, .inr ⟨g, _, rfl, h1, h2, setRow_heap w g cs _ e _ hb, ?_⟩⟩, kept_setRow _ _ _, by simp⟩
  rw [List.take_zero, List.nil_append, List.take_append_of_le_length (by rw [cI_length]; omega), List.take_of_length_le (by rw [cI_length]; omega)]
/-- one row of rows -/
theorem Ow.ldR (h : Ow w lo hi e 9 (some ⟨g, 0, none⟩) n c (cR ps)) (hw : W9 ps) (hk : k < ps.length) : (loadCellsFrom ⟨g, k * 9, none⟩ 0 9 #[]).run P w = .ok (rv (ps.getD k [])) w :=
  ld_at (hw k hk) fun j hj => h.cellAt (cR_get hw k j hk hj)
theorem Ow.rowN (h : Ow w lo hi e 9 (some ⟨g, 0, none⟩) n c (cR ps)) (hw : W9 ps) : ps.length = n := by have := h.1; rw [cR_length hw] at this; omega
theorem Ow.atR (h : Ow w lo hi e 9 (some ⟨g, 0, none⟩) n c (cR ps)) (hw : W9 ps) (hk : k < ps.length) {j : Nat} (hj : j < 9) : ∃ z : Int, w.cell? ⟨g, k * 9 + j, none⟩ = some (.int .i64 z) ∧ Hid (z = (ps.getD k []).getD j 0) :=
  ⟨_, h.cellAt (cR_get hw k j hk hj), Lib.hid rfl⟩
theorem Ow.stR (h : Ow w lo hi e 9 (some ⟨g, 0, none⟩) n c (cR ps)) (hw : W9 ps) (hk : k < ps.length) (hx : x.length = 9) :
    ∃ w', (storeCells ⟨g, k * 9, none⟩ (rv x).toList 0).run P w = .ok () w' ∧ Ow w' lo hi e 9 (some ⟨g, 0, none⟩) n c (cR (ps.set k x)) ∧ Kept g (g + 1) w w' ∧ w'.heap.size = w.heap.size := by
  have hn := h.rowN hw
  obtain ⟨g', cs, hA, h1, h2, hb, ht⟩ := h.lt (by omega)
  injection hA with hA; injection hA with hA; subst hA
  have hlen : (cs.toList.take (n * 9)).length = n * 9 := by rw [ht, cR_length hw, hn]
  have hs : n * 9 ≤ cs.size := by rw [List.length_take] at hlen; simp at hlen; omega
  refine ⟨_, st_at hb (by omega) hx, ⟨by rw [cR_length (hw.set k hx), List.length_set, hn], h.2.1, .inr ⟨g, _, rfl, h1, h2, setRow_heap w g cs _ e _ hb, ?_⟩⟩, kept_setRow _ _ _, by simp⟩
  rw [← cR_set hw k x hx hk, ← ht]
  apply List.ext_getElem?
  intro i
  have hcx : (cI x).length = 9 := by rw [cI_length]; exact hx
  have l1 : (cs.toList.take (k * 9)).length = k * 9 := by simp; omega
  have l2 : ((cs.toList.take (n * 9)).take (k * 9)).length = k * 9 := by rw [List.length_take, hlen]; omega
  rw [List.getElem?_take, List.append_assoc, List.append_assoc]
  by_cases c1 : i < k * 9
  · rw [if_pos (by omega), List.getElem?_append_left (by omega), List.getElem?_append_left (by omega), List.getElem?_take, List.getElem?_take, List.getElem?_take, if_pos c1, if_pos c1, if_pos (by omega)]
  · rw [List.getElem?_append_right (l₁ := List.take (k * 9) cs.toList) (by omega), List.getElem?_append_right (l₁ := List.take (k * 9) (List.take (n * 9) cs.toList)) (by omega), l1, l2]
    by_cases c2 : i - k * 9 < 9
    · rw [if_pos (by omega), List.getElem?_append_left (by omega), List.getElem?_append_left (by omega)]
    · rw [List.getElem?_append_right (by omega), List.getElem?_append_right (by omega), hcx, List.getElem?_drop, List.getElem?_drop, List.getElem?_take, show k * 9 + 9 + (i - k * 9 - 9) = i by omega]
end

/-! a whole row loaded: as an operation of a list, of a still head, and as a result -/
/-- nine cells at g from o on -/
def R9 (w : World) (g o : Nat) (y : List Int) : Prop := y.length = 9 ∧ w.rangeAt g o (cI y)
theorem info9 : (Try.prog.info? 110).map (·.size) = some 9 := by kernel_rfl
theorem under9 : ∃ e, Try.prog.underlying 110 = some (.array 9 e) := ⟨_, Try.underlying110⟩
theorem run_load9 {w : World} {g o : Nat} {y : List Int} (h : R9 w g o y) : (Instr.loadAt 110 (.pointer (some ⟨g, o, none⟩))).run Try.prog w = .ok (.agg (rv y)) w := by
  obtain ⟨e, he⟩ := under9
  exact run_loadAt_mid w g o 110 (cI y) _ h.2 he rfl (by rw [info9, cI_length, h.1])
theorem wl9 {ops : Array Oper} {rest : List Oper} {op : Oper} {a : Act} {w : World} {Q : Exit → Act → World → Prop} {g o : Nat} {y : List Int} (hgd : op.guard = none) (x : Operand) (ho : op.op = .load 110 x)
    (hx : a.eval x = .pointer (some ⟨g, o, none⟩)) (hr : R9 w g o y) (h : wpList Try.prog ops Q rest (a.put op.dst (.agg (rv y))) w) : wpList Try.prog ops Q (op :: rest) a w := by
  obtain ⟨e, he⟩ := under9
  exact wpList_load_mid hgd 110 x ho g o hx (cI y) _ hr.2 he rfl (by rw [info9, cI_length, hr.1]) h
theorem sl9 {ops : Array Oper} {rest : List Oper} {op : Oper} {a : Act} {w : World} {Q : Act → Prop} {g o : Nat} {y : List Int} (hgd : op.guard = none) (x : Operand) (ho : op.op = .load 110 x)
    (hx : a.eval x = .pointer (some ⟨g, o, none⟩)) (hr : R9 w g o y) (h : wpStill Try.prog ops w Q rest (a.put op.dst (.agg (rv y)))) : wpStill Try.prog ops w Q (op :: rest) a := by
  refine wpStill_step fun K hK => ?_
  have hw : Region.wanted op (yielded ops a.tmps) = true := by simp [Region.wanted, hgd]
  rw [if_pos hw]
  unfold Oper.still execOp
  simp only [ho, hx, Sem.run_bind, run_load9 hr, Result.andThen_ok, Sem.run_pure]
  exact ⟨rfl, hK _ h⟩
/-- as steps of a region that draws -/
theorem step_load9 {ops : Array Oper} {o : Oper} {a : Act} {w : World} {K : Act → World → Prop} {Q : Exit → Act → World → Prop} {E : Prop} {g oo : Nat} {y : List Int} (hgd : o.guard = none) (x : Operand) (ho : o.op = .load 110 x)
    (hx : a.eval x = .pointer (some ⟨g, oo, none⟩)) (hr : R9 w g oo y) (h : K (a.put o.dst (.agg (rv y))) w) : if Region.wanted o (yielded ops a.tmps) = true then Oper.wp Try.prog o a w K Q else E := by
  have hw : Region.wanted o (yielded ops a.tmps) = true := by simp [Region.wanted, hgd]
  rw [if_pos hw]
  obtain ⟨e, he⟩ := under9
  exact wp_load_mid 110 x ho g oo hx (cI y) _ hr.2 he rfl (by rw [info9, cI_length, hr.1]) h
theorem run_store9 {w w' : World} {g oo : Nat} {y : List Int} (hy : y.length = 9) (hst : (storeCells ⟨g, oo, none⟩ (rv y).toList 0).run Try.prog w = .ok () w') : (Instr.storeAt 110 (.pointer (some ⟨g, oo, none⟩)) (.agg (rv y))).run Try.prog w = .ok () w' := by
  have hi := info9
  cases hq : Try.prog.info? 110 with
  | none => simp [hq] at hi
  | some i =>
    have hs : i.size = 9 := by simpa [hq] using hi
    have hz : (rv y).size = 9 := by rw [rv_size, hy]
    simp only [Instr.storeAt, Instr.sureAddr, Sem.run_bind, Sem.run_pure, Result.andThen_ok]
    simp [storeVar, sizeOf, typeInfo, hq, Value.cells, hs, hz, hst]
theorem step_store9 {ops : Array Oper} {o : Oper} {a : Act} {w w' : World} {K : Act → World → Prop} {Q : Exit → Act → World → Prop} {E : Prop} {g oo : Nat} {y : List Int} (hgd : o.guard = none) (x v : Operand) (ho : o.op = .store 110 x v)
    (hx : a.eval x = .pointer (some ⟨g, oo, none⟩)) (hv : a.eval v = .agg (rv y)) (hy : y.length = 9) (hst : (storeCells ⟨g, oo, none⟩ (rv y).toList 0).run Try.prog w = .ok () w') (h : K (a.put o.dst undef) w') :
    if Region.wanted o (yielded ops a.tmps) = true then Oper.wp Try.prog o a w K Q else E := by
  have hw : Region.wanted o (yielded ops a.tmps) = true := by simp [Region.wanted, hgd]
  rw [if_pos hw]
  unfold Oper.wp execOp
  simp only [ho, hx, hv, Sem.run_bind, run_store9 hy hst, Result.andThen_ok, Sem.run_pure]
  exact h
/-- it yields in every world that meets S -/
theorem yield9 {ops : Array Oper} {S : World → Prop} {op : Oper} {a : Act} {g oo : Nat} {y : List Int} (hgd : op.guard = none) (x : Operand) (ho : op.op = .load 110 x)
    (hx : a.eval x = .pointer (some ⟨g, oo, none⟩)) (hr : ∀ w, S w → R9 w g oo y) (hy : y.length = 9) : YieldsIf Try.prog ops S op (.agg (rv y)) a := by
  obtain ⟨e, he⟩ := under9
  exact yieldsIf_load_mid (by simp [Region.wanted, hgd]) 110 x ho g oo hx (cI y) _ (fun w hw => (hr w hw).2) he rfl (by rw [info9, cI_length, hy])
theorem wst9 {ops : Array Oper} {rest : List Oper} {op : Oper} {a : Act} {w w' : World} {Q : Exit → Act → World → Prop} {g oo : Nat} {y : List Int} (hgd : op.guard = none) (x v : Operand) (ho : op.op = .store 110 x v)
    (hx : a.eval x = .pointer (some ⟨g, oo, none⟩)) (hv : a.eval v = .agg (rv y)) (hy : y.length = 9) (hst : (storeCells ⟨g, oo, none⟩ (rv y).toList 0).run Try.prog w = .ok () w') (h : wpList Try.prog ops Q rest (a.put op.dst undef) w') :
    wpList Try.prog ops Q (op :: rest) a w := by
  refine wpList_plain hgd fun K hK => ?_
  unfold Oper.wp execOp
  simp only [ho, hx, hv, Sem.run_bind, run_store9 hy hst, Result.andThen_ok, Sem.run_pure]
  exact hK _ _ h
theorem res9 {fn : Func} {t : Tmp} {tmps : Array Value} {w : World} {g : Nat} {y : List Int} (h : fn.results = #[.cell t 110]) (ht : tmps.getD t undef = .pointer (some ⟨g, 0, none⟩)) (hr : R9 w g 0 y) :
    (results fn tmps).run Try.prog w = .ok (.agg (rv y)) w := by
  obtain ⟨e, he⟩ := under9
  have := run_loadVar_mid (P := Try.prog) w g 0 110 (cI y) _ hr.2 he rfl (by rw [info9, cI_length, hr.1])
  have ht2 : tmps[t]?.getD undef = .pointer (some ⟨g, 0, none⟩) := by rw [← ht]; simp
  simp [results, h, ht2, this, asAddr, rv]
section
variable {w : World} {lo hi e n c g k : Nat} {x : List Int} {ps : List (List Int)}
theorem Ow.r9 (h : Ow w lo hi e 1 (some ⟨g, 0, none⟩) 9 c (cI x)) : R9 w g 0 x := ⟨h.len, fun j v hv => by rw [Nat.zero_add]; exact h.cellAt hv⟩
theorem Ow.r9R (h : Ow w lo hi e 9 (some ⟨g, 0, none⟩) n c (cR ps)) (hw : W9 ps) (hk : k < ps.length) : R9 w g (k * 9) (ps.getD k []) :=
  ⟨hw k hk, fun j v hv => by
    have hj : j < 9 := by have := (List.getElem?_eq_some_iff.1 hv).1; rw [cI_length, hw k hk] at this; exact this
    have e := cI_get (ps.getD k []) j (by rw [hw k hk]; exact hj)
    rw [hv] at e; injection e with e
    rw [e]; exact h.cellAt (cR_get hw k j hk hj)⟩
theorem R9.new (w : World) (t : TypeId) (hx : x.length = 9) : R9 (w.alloc (.cells (rv x) t)) w.heap.size 0 x :=
  ⟨hx, fun j v hv => by rw [Nat.zero_add, cell_of_row _ w.heap.size j (rv x) t (0, 0) (heap_alloc_new _ _)]; simpa [rv] using hv⟩
theorem R9.keep {w' : World} {B o : Nat} (h : R9 w g o x) (hb : Below B w w') (hg : g < B) : R9 w' g o x := ⟨h.1, fun j v hv => (hb.cell (p := ⟨g, o + j, none⟩) hg).trans (h.2 j v hv)⟩
end
end Go.Proofs.Ytbnobkojkfmccaa
