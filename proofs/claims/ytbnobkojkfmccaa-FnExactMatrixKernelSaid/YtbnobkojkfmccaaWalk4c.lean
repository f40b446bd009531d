/- Chapter 3 in the program: a column taken into account. -/
import Derived.Test.YtbnobkojkfmccaaWalk4b
import Derived.Test.YtbnobkojkfmccaaKeptS
import Derived.Deep.WholeRow
import Derived.Deep.RegionHeld3
import Derived.Deep.RegionLaw
import Derived.Deep.Cut
namespace Go.Proofs.Ytbnobkojkfmccaa
open Go.RowKit
set_option maxRecDepth 100000

/-- the cells of a system -/
def sysC (g0 n cr : Nat) (tv dv : Value) : Array Value := #[.slice (some ⟨g0, 0, none⟩) n cr, tv, dv]
theorem new9 (w : World) (x : List Int) (hx : x.length = 9) : (storeCells ⟨w.heap.size, 0, none⟩ (rv x).toList 0).run Try.prog (w.alloc (.cells #[.int .i64 0, .int .i64 0, .int .i64 0, .int .i64 0, .int .i64 0, .int .i64 0, .int .i64 0, .int .i64 0, .int .i64 0] 110)) = .ok () (w.alloc (.cells (rv x) 110)) :=
  run_storeCells_new w 110 z9 (rv x) (by rw [info9, rv_size, hx]) (by rw [rv_size, hx]; rfl) (by
    rw [Array.all_eq_true_iff_forall_mem]
    intro u hu
    exact rv_one x u (by simpa using hu))

def N9 (P : List (List Int)) : Prop := ∀ k, k < P.length → Nums (P.getD k [])
theorem N9.set {P : List (List Int)} (h : N9 P) (k : Nat) {x : List Int} (hx : Nums x) : N9 (P.set k x) := fun i hi => by
  rw [List.length_set] at hi
  by_cases hk : k < P.length
  · rw [getD_set1 _ _ _ _ _ hk]
    split
    · exact hx
    · exact h i hi
  · rw [List.set_eq_of_length_le (by omega)]; exact h i hi
theorem W9.swap {P : List (List Int)} {a k : Nat} (h : W9 P) (ha : a < P.length) (hk : k < P.length) : W9 (swapR [] P a k) := by
  unfold swapR; exact (h.set a (h k hk)).set k (h a ha)
theorem N9.swap {P : List (List Int)} {a k : Nat} (h : N9 P) (ha : a < P.length) (hk : k < P.length) : N9 (swapR [] P a k) := by
  unfold swapR; exact (h.set a (h k hk)).set k (h a ha)
theorem W9.take {S : List (List Int)} {one : List Int} {c : Nat} (h : W9 S) (i : Nat) (hi : i ≤ S.length) : W9 (takeI S one c i) := by
  induction i with
  | zero => exact h
  | succ i ih => rw [takeI]; exact (ih (by omega)).set i (by rw [rm_length]; exact h i (by omega))
theorem N9.take {S : List (List Int)} {one : List Int} {c : Nat} (hw : W9 S) (h : N9 S) (i : Nat) (hi : i ≤ S.length) : N9 (takeI S one c i) := by
  induction i with
  | zero => exact h
  | succ i ih => rw [takeI]; exact (ih (by omega)).set i (nums_rm (hw i (by omega)) (h i (by omega)))

set_option maxHeartbeats 4000000 in
theorem i_take (gs g0 n cr kt ct c idx B : Nat) (At : Option Addr) (dv : Value) (P : List (List Int)) (T : List Int) (w : World)
    (HS : w.heap[gs]? = some (.cells (sysC g0 n cr (.slice At kt ct) dv) 71 (0, 0))) (HO : Ow w g0 (g0 + 1) 110 9 (some ⟨g0, 0, none⟩) n cr (cR P)) (hW : W9 P) (hN : N9 P)
    (HT : w.ownsRow B 3 1 (.slice At kt ct) kt (cI T)) (hBs : B ≤ gs) (hB0 : B ≤ g0) (hk : kt < n) (hi : idx < n) (hc : c < 8) (hn : n ≤ 8) :
    Calls Try.prog 91 #[.pointer (some ⟨gs, 0, none⟩), .int .i64 c, .int .i64 idx] w fun e w' => ∃ (A1 : Option Addr) (c1 : Nat), e = .returned (.tuple #[]) ∧
      w'.heap[gs]? = some (.cells (sysC g0 n cr (.slice A1 (kt + 1) c1) dv) 71 (0, 0)) ∧ Ow w' g0 (g0 + 1) 110 9 (some ⟨g0, 0, none⟩) n cr (cR (takeP P c kt idx n)) ∧
      w'.ownsRow B 3 1 (.slice A1 (kt + 1) c1) (kt + 1) (cI (T ++ [(c : Int)])) ∧ KeptS (fun k => k = g0 ∨ k = gs ∨ Value.ownBlock (.slice At kt ct) = some k) w w' ∧
      (Value.ownBlock (.slice A1 (kt + 1) c1) = Value.ownBlock (.slice At kt ct) ∨ ∃ b, w.heap.size ≤ b ∧ Value.ownBlock (.slice A1 (kt + 1) c1) = some b) := by
  have hPn := HO.rowN hW
  obtain ⟨c0, hb0⟩ := HO.blockOf (by omega)
  have hgne : gs ≠ g0 := by
    intro e; rw [e, hb0] at HS; injection HS with HS; injection HS with _ ht; exact absurd ht (by decide)
  have hT0 : Value.ownBlock (.slice At kt ct) ≠ some g0 := own_other HT hb0 (by decide)
  have hTs : Value.ownBlock (.slice At kt ct) ≠ some gs := own_other HT HS (by decide)
  have l0 := block_lt hb0
  have ls := block_lt HS
  -- the cells of the system
  have hs0 : w.cell? ⟨gs, 0, none⟩ = some (.slice (some ⟨g0, 0, none⟩) n cr) := block_cell HS rfl
  have hs1 : w.cell? ⟨gs, 1, none⟩ = some (.slice At kt ct) := block_cell HS rfl
  -- the rows read
  obtain ⟨yi, hyi⟩ : ∃ y, y = P.getD idx [] := ⟨_, rfl⟩
  obtain ⟨yk, hyk⟩ : ∃ y, y = P.getD kt [] := ⟨_, rfl⟩
  have hli : yi.length = 9 := by rw [hyi]; exact hW _ (by omega)
  have hlk : yk.length = 9 := by rw [hyk]; exact hW _ (by omega)
  have HRI : Hid (R9 w.drew g0 (idx * 9) yi) := Lib.hid (by rw [hyi]; exact HO.r9R hW (by omega))
  have HRK : Hid (R9 w.drew g0 (kt * 9) yk) := Lib.hid (by rw [hyk]; exact HO.r9R hW (by omega))
  obtain ⟨w1, hst1, ho1, hk1, hz1⟩ := Ow.stR (w := w.drew) HO (P := Try.prog) hW (k := kt) (x := yi) (by omega) hli
  obtain ⟨w2, hst2, ho2, hk2, hz2⟩ := ho1.stR (P := Try.prog) (hW.set kt hli) (k := idx) (x := yk) (by rw [List.length_set]; omega) hlk
  obtain ⟨S, hS⟩ : ∃ S, S = swapR [] P kt idx := ⟨_, rfl⟩
  have HO2 : Hid (Ow w2 g0 (g0 + 1) 110 9 (some ⟨g0, 0, none⟩) n cr (cR S)) := Lib.hid (by rw [hS]; unfold swapR; rw [← hyi, ← hyk]; exact ho2)
  have HSW : Hid (W9 S) := Lib.hid (by rw [hS]; exact hW.swap (by omega) (by omega))
  have HSN : Hid (N9 S) := Lib.hid (by rw [hS]; exact hN.swap (by omega) (by omega))
  have HSL : Hid (S.length = n) := Lib.hid (by rw [hS, swapR_length]; exact hPn)
  have HK2 : Hid (KeptS (fun k => k = g0 ∨ k = gs) w w2) := Lib.hid (((KeptS.refl _ _).drew.trans (KeptS.of_kept hk1 (.inl rfl))).trans (.of_kept hk2 (.inl rfl)))
  have HG2 : Hid (w2.heap[gs]? = some (.cells (sysC g0 n cr (.slice At kt ct) dv) 71 (0, 0))) := Lib.hid ((KeptS.of_kept (S := fun k => k = g0) hk2 rfl).heap ((KeptS.of_kept (S := fun k => k = g0) hk1 rfl).heap (show w.drew.heap[gs]? = _ from HS) hgne) hgne)
  have HG1 : Hid (w1.heap[gs]? = some (.cells (sysC g0 n cr (.slice At kt ct) dv) 71 (0, 0))) := Lib.hid ((KeptS.of_kept (S := fun k => k = g0) hk1 rfl).heap (show w.drew.heap[gs]? = _ from HS) hgne)
  have HT' := Lib.hid HT
  have HRES : Hid (takeP P c kt idx n = (takeI S (oneOf S c kt) c n).set kt (oneOf S c kt)) := Lib.hid (by rw [hS]; rfl)
  have hzi : (rv yi).size = 9 := by rw [rv_size, hli]
  have hzk : (rv yk).size = 9 := by rw [rv_size, hlk]
  have LL := Lib.hid (And.intro l0 (And.intro ls (And.intro hgne (And.intro hT0 hTs))))
  clear ho1 ho2 hk1 hk2 hz1 hz2 HO HS HT hW hN hPn hb0 hyi hyk hS l0 ls hgne hT0 hTs
  have j0 : (0 : Int) ≤ (kt : Int) := by omega
  have j1 : (kt : Int) < (n : Int) := by omega
  have j2 : (0 : Int) ≤ (idx : Int) := by omega
  have j3 : (idx : Int) < (n : Int) := by omega
  go_enter Try.func91, Try.ntmps91
  have HC1 : Hid (w1.cell? ⟨gs, 0, none⟩ = some (.slice (some ⟨g0, 0, none⟩) n cr)) := Lib.hid (block_cell HG1.out rfl)
  have HC2 : Hid (w2.cell? ⟨gs, 0, none⟩ = some (.slice (some ⟨g0, 0, none⟩) n cr)) := Lib.hid (block_cell HG2.out rfl)
  have H1 := Lib.hid hst1
  have H2 := Lib.hid hst2
  clear hst1 hst2
  go_upto_region 1 with (fail)
  go_cut [] from 15 (fun w' => w' = w2)
  case first =>
    refine wp_region_held_drew (S := fun w' => w'.cell? ⟨gs, 0, none⟩ = some (.slice (some ⟨g0, 0, none⟩) n cr)) (by kernel_rfl) hs0 (fun hHeld => ?_)
    refine wpAnyH_take (i := 0) (oi := { dst := some 15, op := Op.move (Operand.tmp 0), type := 140, pos := "l3_systems.go:63", after := #[], guard := none }) (v := ?_) rfl (by kernel_rfl) (by kernel_rfl) (by kernel_rfl) (fun _ _ _ h => h) (Or.inl ⟨by rfl, ?_⟩) hHeld ?_
    rotate_left
    · intro w hSw; (try dsimp only at hSw); go_simp; (try with_reducible rfl)
    simp only [Act.put, List.setIfInBounds_toArray, List.set_cons_zero, List.set_cons_succ]
    refine wpAnyH_take (i := 1) (oi := { dst := some 16, op := Op.nilCheck (Operand.tmp 15), type := 0, pos := "l3_systems.go:63", after := #[{ on := 0, ground := Ground.data }], guard := none }) (v := ?_) rfl (by kernel_rfl) (by kernel_rfl) (by kernel_rfl) (fun _ _ _ h => h) (Or.inl ⟨by rfl, ?_⟩) hHeld ?_
    rotate_left
    · intro w hSw; (try dsimp only at hSw); go_simp; (try with_reducible rfl)
    simp only [Act.put, List.setIfInBounds_toArray, List.set_cons_zero, List.set_cons_succ]
    refine wpAnyH_take (i := 2) (oi := { dst := some 17, op := Op.fieldAddr 71 (Operand.tmp 16) 0, type := 0, pos := "l3_systems.go:63", after := #[{ on := 1, ground := Ground.data }], guard := none }) (v := ?_) rfl (by kernel_rfl) (by kernel_rfl) (by kernel_rfl) (fun _ _ _ h => h) (Or.inl ⟨by rfl, ?_⟩) hHeld ?_
    rotate_left
    · intro w hSw; (try dsimp only at hSw); go_simp; (try with_reducible rfl)
    simp only [Act.put, List.setIfInBounds_toArray, List.set_cons_zero, List.set_cons_succ]
    refine wpAnyH_take (i := 3) (oi := { dst := some 18, op := Op.load 69 (Operand.tmp 17), type := 69, pos := "l3_systems.go:63", after := #[{ on := 2, ground := Ground.data }], guard := none }) (v := ?_) rfl (by kernel_rfl) (by kernel_rfl) (by kernel_rfl) (fun _ _ _ h => h) (Or.inl ⟨by rfl, ?_⟩) hHeld ?_
    rotate_left
    · intro w hSw; (try dsimp only at hSw); go_simp; (try with_reducible rfl)
    simp only [Act.put, List.setIfInBounds_toArray, List.set_cons_zero, List.set_cons_succ]
    refine wpAnyH_take (i := 4) (oi := { dst := some 19, op := Op.move (Operand.tmp 6), type := 3, pos := "l3_systems.go:63", after := #[], guard := none }) (v := ?_) rfl (by kernel_rfl) (by kernel_rfl) (by kernel_rfl) (fun _ _ _ h => h) (Or.inl ⟨by rfl, ?_⟩) hHeld ?_
    rotate_left
    · intro w hSw; (try dsimp only at hSw); go_simp; (try with_reducible rfl)
    simp only [Act.put, List.setIfInBounds_toArray, List.set_cons_zero, List.set_cons_succ]
    refine wpAnyH_take (i := 5) (oi := { dst := some 20, op := Op.move (Operand.tmp 0), type := 140, pos := "l3_systems.go:63", after := #[], guard := none }) (v := ?_) rfl (by kernel_rfl) (by kernel_rfl) (by kernel_rfl) (fun _ _ _ h => h) (Or.inl ⟨by rfl, ?_⟩) hHeld ?_
    rotate_left
    · intro w hSw; (try dsimp only at hSw); go_simp; (try with_reducible rfl)
    simp only [Act.put, List.setIfInBounds_toArray, List.set_cons_zero, List.set_cons_succ]
    refine wpAnyH_take (i := 6) (oi := { dst := some 21, op := Op.nilCheck (Operand.tmp 20), type := 0, pos := "l3_systems.go:63", after := #[{ on := 5, ground := Ground.data }], guard := none }) (v := ?_) rfl (by kernel_rfl) (by kernel_rfl) (by kernel_rfl) (fun _ _ _ h => h) (Or.inl ⟨by rfl, ?_⟩) hHeld ?_
    rotate_left
    · intro w hSw; (try dsimp only at hSw); go_simp; (try with_reducible rfl)
    simp only [Act.put, List.setIfInBounds_toArray, List.set_cons_zero, List.set_cons_succ]
    refine wpAnyH_take (i := 7) (oi := { dst := some 22, op := Op.fieldAddr 71 (Operand.tmp 21) 0, type := 0, pos := "l3_systems.go:63", after := #[{ on := 6, ground := Ground.data }], guard := none }) (v := ?_) rfl (by kernel_rfl) (by kernel_rfl) (by kernel_rfl) (fun _ _ _ h => h) (Or.inl ⟨by rfl, ?_⟩) hHeld ?_
    rotate_left
    · intro w hSw; (try dsimp only at hSw); go_simp; (try with_reducible rfl)
    simp only [Act.put, List.setIfInBounds_toArray, List.set_cons_zero, List.set_cons_succ]
    refine wpAnyH_take (i := 8) (oi := { dst := some 23, op := Op.load 69 (Operand.tmp 22), type := 69, pos := "l3_systems.go:63", after := #[{ on := 7, ground := Ground.data }], guard := none }) (v := ?_) rfl (by kernel_rfl) (by kernel_rfl) (by kernel_rfl) (fun _ _ _ h => h) (Or.inl ⟨by rfl, ?_⟩) hHeld ?_
    rotate_left
    · intro w hSw; (try dsimp only at hSw); go_simp; (try with_reducible rfl)
    simp only [Act.put, List.setIfInBounds_toArray, List.set_cons_zero, List.set_cons_succ]
    refine wpAnyH_take (i := 9) (oi := { dst := some 24, op := Op.move (Operand.tmp 2), type := 3, pos := "l3_systems.go:63", after := #[{ on := 25, ground := Ground.gcOnly Departure.lateStores }], guard := none }) (v := ?_) rfl (by kernel_rfl) (by kernel_rfl) (by kernel_rfl) (fun _ _ _ h => h) (Or.inl ⟨by rfl, ?_⟩) hHeld ?_
    rotate_left
    · intro w hSw; (try dsimp only at hSw); go_simp; (try with_reducible rfl)
    simp only [Act.put, List.setIfInBounds_toArray, List.set_cons_zero, List.set_cons_succ]
    refine wpAnyH_take (i := 10) (oi := { dst := some 25, op := Op.move (Operand.tmp 0), type := 140, pos := "l3_systems.go:63", after := #[], guard := none }) (v := ?_) rfl (by kernel_rfl) (by kernel_rfl) (by kernel_rfl) (fun _ _ _ h => h) (Or.inl ⟨by rfl, ?_⟩) hHeld ?_
    rotate_left
    · intro w hSw; (try dsimp only at hSw); go_simp; (try with_reducible rfl)
    simp only [Act.put, List.setIfInBounds_toArray, List.set_cons_zero, List.set_cons_succ]
    refine wpAnyH_take (i := 11) (oi := { dst := some 26, op := Op.nilCheck (Operand.tmp 25), type := 0, pos := "l3_systems.go:63", after := #[{ on := 10, ground := Ground.data }], guard := none }) (v := ?_) rfl (by kernel_rfl) (by kernel_rfl) (by kernel_rfl) (fun _ _ _ h => h) (Or.inl ⟨by rfl, ?_⟩) hHeld ?_
    rotate_left
    · intro w hSw; (try dsimp only at hSw); go_simp; (try with_reducible rfl)
    simp only [Act.put, List.setIfInBounds_toArray, List.set_cons_zero, List.set_cons_succ]
    refine wpAnyH_take (i := 12) (oi := { dst := some 27, op := Op.fieldAddr 71 (Operand.tmp 26) 0, type := 0, pos := "l3_systems.go:63", after := #[{ on := 11, ground := Ground.data }], guard := none }) (v := ?_) rfl (by kernel_rfl) (by kernel_rfl) (by kernel_rfl) (fun _ _ _ h => h) (Or.inl ⟨by rfl, ?_⟩) hHeld ?_
    rotate_left
    · intro w hSw; (try dsimp only at hSw); go_simp; (try with_reducible rfl)
    simp only [Act.put, List.setIfInBounds_toArray, List.set_cons_zero, List.set_cons_succ]
    refine wpAnyH_take (i := 13) (oi := { dst := some 28, op := Op.load 69 (Operand.tmp 27), type := 69, pos := "l3_systems.go:63", after := #[{ on := 12, ground := Ground.data }], guard := none }) (v := ?_) rfl (by kernel_rfl) (by kernel_rfl) (by kernel_rfl) (fun _ _ _ h => h) (Or.inl ⟨by rfl, ?_⟩) hHeld ?_
    rotate_left
    · intro w hSw; (try dsimp only at hSw); go_simp; (try with_reducible rfl)
    simp only [Act.put, List.setIfInBounds_toArray, List.set_cons_zero, List.set_cons_succ]
    refine wpAnyH_take (i := 14) (oi := { dst := some 29, op := Op.move (Operand.tmp 2), type := 3, pos := "l3_systems.go:63", after := #[], guard := none }) (v := ?_) rfl (by kernel_rfl) (by kernel_rfl) (by kernel_rfl) (fun _ _ _ h => h) (Or.inl ⟨by rfl, ?_⟩) hHeld ?_
    rotate_left
    · intro w hSw; (try dsimp only at hSw); go_simp; (try with_reducible rfl)
    simp only [Act.put, List.setIfInBounds_toArray, List.set_cons_zero, List.set_cons_succ]
    refine wpAnyH_take (i := 15) (oi := { dst := some 30, op := Op.indexAddr 69 (Operand.tmp 28) (Operand.tmp 29), type := 0, pos := "l3_systems.go:63", after := #[{ on := 13, ground := Ground.data }, { on := 14, ground := Ground.data }], guard := none }) (v := ?_) rfl (by kernel_rfl) (by kernel_rfl) (by kernel_rfl) (fun _ _ _ h => h) (Or.inl ⟨by rfl, ?_⟩) hHeld ?_
    rotate_left
    · intro w hSw; (try dsimp only at hSw); go_simp; (try with_reducible rfl)
    simp only [Act.put, List.setIfInBounds_toArray, List.set_cons_zero, List.set_cons_succ]
    refine wpAnyH_take (i := 17) (oi := { dst := some 32, op := Op.move (Operand.tmp 0), type := 140, pos := "l3_systems.go:63", after := #[], guard := none }) (v := ?_) rfl (by kernel_rfl) (by kernel_rfl) (by kernel_rfl) (fun _ _ _ h => h) (Or.inl ⟨by rfl, ?_⟩) hHeld ?_
    rotate_left
    · intro w hSw; (try dsimp only at hSw); go_simp; (try with_reducible rfl)
    simp only [Act.put, List.setIfInBounds_toArray, List.set_cons_zero, List.set_cons_succ]
    refine wpAnyH_take (i := 18) (oi := { dst := some 33, op := Op.nilCheck (Operand.tmp 32), type := 0, pos := "l3_systems.go:63", after := #[{ on := 17, ground := Ground.data }], guard := none }) (v := ?_) rfl (by kernel_rfl) (by kernel_rfl) (by kernel_rfl) (fun _ _ _ h => h) (Or.inl ⟨by rfl, ?_⟩) hHeld ?_
    rotate_left
    · intro w hSw; (try dsimp only at hSw); go_simp; (try with_reducible rfl)
    simp only [Act.put, List.setIfInBounds_toArray, List.set_cons_zero, List.set_cons_succ]
    refine wpAnyH_take (i := 19) (oi := { dst := some 34, op := Op.fieldAddr 71 (Operand.tmp 33) 0, type := 0, pos := "l3_systems.go:63", after := #[{ on := 18, ground := Ground.data }], guard := none }) (v := ?_) rfl (by kernel_rfl) (by kernel_rfl) (by kernel_rfl) (fun _ _ _ h => h) (Or.inl ⟨by rfl, ?_⟩) hHeld ?_
    rotate_left
    · intro w hSw; (try dsimp only at hSw); go_simp; (try with_reducible rfl)
    simp only [Act.put, List.setIfInBounds_toArray, List.set_cons_zero, List.set_cons_succ]
    refine wpAnyH_take (i := 20) (oi := { dst := some 35, op := Op.load 69 (Operand.tmp 34), type := 69, pos := "l3_systems.go:63", after := #[{ on := 19, ground := Ground.data }], guard := none }) (v := ?_) rfl (by kernel_rfl) (by kernel_rfl) (by kernel_rfl) (fun _ _ _ h => h) (Or.inl ⟨by rfl, ?_⟩) hHeld ?_
    rotate_left
    · intro w hSw; (try dsimp only at hSw); go_simp; (try with_reducible rfl)
    simp only [Act.put, List.setIfInBounds_toArray, List.set_cons_zero, List.set_cons_succ]
    refine wpAnyH_take (i := 21) (oi := { dst := some 36, op := Op.move (Operand.tmp 6), type := 3, pos := "l3_systems.go:63", after := #[], guard := none }) (v := ?_) rfl (by kernel_rfl) (by kernel_rfl) (by kernel_rfl) (fun _ _ _ h => h) (Or.inl ⟨by rfl, ?_⟩) hHeld ?_
    rotate_left
    · intro w hSw; (try dsimp only at hSw); go_simp; (try with_reducible rfl)
    simp only [Act.put, List.setIfInBounds_toArray, List.set_cons_zero, List.set_cons_succ]
    refine wpAnyH_take (i := 22) (oi := { dst := some 37, op := Op.indexAddr 69 (Operand.tmp 35) (Operand.tmp 36), type := 0, pos := "l3_systems.go:63", after := #[{ on := 20, ground := Ground.data }, { on := 21, ground := Ground.data }], guard := none }) (v := ?_) rfl (by kernel_rfl) (by kernel_rfl) (by kernel_rfl) (fun _ _ _ h => h) (Or.inl ⟨by rfl, ?_⟩) hHeld ?_
    rotate_left
    · intro w hSw; (try dsimp only at hSw); go_simp; (try with_reducible rfl)
    simp only [Act.put, List.setIfInBounds_toArray, List.set_cons_zero, List.set_cons_succ]
    refine wpAnyH_ready (rs := [16, 23]) (by kernel_rfl) (by simp) ?_
    refine AllReadyH.cons (o := { dst := some 31, op := Op.load 110 (Operand.tmp 30), type := 110, pos := "l3_systems.go:63", after := #[{ on := 15, ground := Ground.data }], guard := none }) rfl (fun K hK => ?_) ?_
    · refine step_load9 rfl (.tmp 30) rfl rfl HRI.out ?_
      refine hK.out _ _ hHeld (fun hHeld => ?_)
      clear hK K
      simp only [Act.put, List.setIfInBounds_toArray, List.set_cons_zero, List.set_cons_succ]
      refine wpAnyH_ready (rs := [23]) (by kernel_rfl) (by simp) ?_
      refine AllReadyH.cons (o := { dst := some 38, op := Op.load 110 (Operand.tmp 37), type := 110, pos := "l3_systems.go:63", after := #[{ on := 22, ground := Ground.data }], guard := none }) rfl (fun K hK => ?_) ?_
      · refine step_load9 rfl (.tmp 37) rfl rfl HRK.out ?_
        refine hK.out _ _ hHeld (fun hHeld => ?_)
        clear hK K
        simp only [Act.put, List.setIfInBounds_toArray, List.set_cons_zero, List.set_cons_succ]
        refine wpAnyH_take (i := 24) (oi := { dst := some 39, op := Op.indexAddr 69 (Operand.tmp 18) (Operand.tmp 19), type := 0, pos := "l3_systems.go:63", after := #[{ on := 3, ground := Ground.data }, { on := 4, ground := Ground.data }, { on := 0, ground := Ground.phase }, { on := 1, ground := Ground.phase }, { on := 2, ground := Ground.phase }, { on := 3, ground := Ground.phase }, { on := 4, ground := Ground.phase }, { on := 5, ground := Ground.textOnly Departure.lateStores }, { on := 6, ground := Ground.textOnly Departure.lateStoresUnsure }, { on := 7, ground := Ground.textOnly Departure.lateStoresUnsure }, { on := 8, ground := Ground.phase }, { on := 9, ground := Ground.textOnly Departure.lateStores }, { on := 10, ground := Ground.phase }, { on := 11, ground := Ground.phase }, { on := 12, ground := Ground.phase }, { on := 13, ground := Ground.phase }, { on := 14, ground := Ground.phase }, { on := 15, ground := Ground.phase }, { on := 16, ground := Ground.phase }, { on := 17, ground := Ground.textOnly Departure.lateStores }, { on := 18, ground := Ground.textOnly Departure.lateStoresUnsure }, { on := 19, ground := Ground.textOnly Departure.lateStoresUnsure }, { on := 20, ground := Ground.phase }, { on := 21, ground := Ground.textOnly Departure.lateStores }, { on := 22, ground := Ground.textOnly Departure.lateStoresUnsure }, { on := 23, ground := Ground.phase }], guard := none }) (v := ?_) rfl (by kernel_rfl) (by kernel_rfl) (by kernel_rfl) (fun _ _ _ h => h) (Or.inl ⟨by rfl, ?_⟩) hHeld ?_
        rotate_left
        · intro w hSw; (try dsimp only at hSw); go_simp; (try with_reducible rfl)
        simp only [Act.put, List.setIfInBounds_toArray, List.set_cons_zero, List.set_cons_succ]
        refine wpAnyH_ready (rs := [25]) (by kernel_rfl) (by simp) ?_
        refine AllReadyH.cons (o := { dst := none, op := Op.store 110 (Operand.tmp 39) (Operand.tmp 31), type := 0, pos := "l3_systems.go:63", after := #[{ on := 24, ground := Ground.data }, { on := 16, ground := Ground.data }, { on := 0, ground := Ground.phase }, { on := 1, ground := Ground.phase }, { on := 2, ground := Ground.phase }, { on := 3, ground := Ground.phase }, { on := 4, ground := Ground.phase }, { on := 5, ground := Ground.textOnly Departure.lateStores }, { on := 6, ground := Ground.textOnly Departure.lateStoresUnsure }, { on := 7, ground := Ground.textOnly Departure.lateStoresUnsure }, { on := 8, ground := Ground.phase }, { on := 9, ground := Ground.textOnly Departure.lateStores }, { on := 10, ground := Ground.phase }, { on := 11, ground := Ground.phase }, { on := 12, ground := Ground.phase }, { on := 13, ground := Ground.phase }, { on := 14, ground := Ground.phase }, { on := 15, ground := Ground.phase }, { on := 16, ground := Ground.phase }, { on := 17, ground := Ground.textOnly Departure.lateStores }, { on := 18, ground := Ground.textOnly Departure.lateStoresUnsure }, { on := 19, ground := Ground.textOnly Departure.lateStoresUnsure }, { on := 20, ground := Ground.phase }, { on := 21, ground := Ground.textOnly Departure.lateStores }, { on := 22, ground := Ground.textOnly Departure.lateStoresUnsure }, { on := 23, ground := Ground.phase }], guard := none }) rfl (fun K hK => ?_) ?_
        · refine step_store9 rfl (.tmp 39) (.tmp 31) rfl rfl rfl hli H1.out ?_
          refine hK.out _ _ HC1.out (fun hHeld => ?_)
          clear hK K
          simp only [Act.put]
          refine wpAnyH_take (i := 26) (oi := { dst := some 40, op := Op.indexAddr 69 (Operand.tmp 23) (Operand.tmp 24), type := 0, pos := "l3_systems.go:63", after := #[{ on := 8, ground := Ground.data }, { on := 9, ground := Ground.data }, { on := 0, ground := Ground.phase }, { on := 1, ground := Ground.phase }, { on := 2, ground := Ground.phase }, { on := 3, ground := Ground.phase }, { on := 4, ground := Ground.phase }, { on := 5, ground := Ground.phase }, { on := 6, ground := Ground.phase }, { on := 7, ground := Ground.phase }, { on := 8, ground := Ground.phase }, { on := 9, ground := Ground.phase }, { on := 10, ground := Ground.phase }, { on := 11, ground := Ground.phase }, { on := 12, ground := Ground.phase }, { on := 13, ground := Ground.phase }, { on := 14, ground := Ground.phase }, { on := 15, ground := Ground.phase }, { on := 16, ground := Ground.phase }, { on := 17, ground := Ground.phase }, { on := 18, ground := Ground.phase }, { on := 19, ground := Ground.phase }, { on := 20, ground := Ground.phase }, { on := 21, ground := Ground.phase }, { on := 22, ground := Ground.phase }, { on := 23, ground := Ground.phase }, { on := 24, ground := Ground.phase }, { on := 25, ground := Ground.phase }], guard := none }) (v := ?_) rfl (by kernel_rfl) (by kernel_rfl) (by kernel_rfl) (fun _ _ _ h => h) (Or.inl ⟨by rfl, ?_⟩) hHeld ?_
          rotate_left
          · intro w hSw; (try dsimp only at hSw); go_simp; (try with_reducible rfl)
          simp only [Act.put, List.setIfInBounds_toArray, List.set_cons_zero, List.set_cons_succ]
          refine wpAnyH_ready (rs := [27]) (by kernel_rfl) (by simp) ?_
          refine AllReadyH.cons (o := { dst := none, op := Op.store 110 (Operand.tmp 40) (Operand.tmp 38), type := 0, pos := "l3_systems.go:63", after := #[{ on := 26, ground := Ground.data }, { on := 23, ground := Ground.data }, { on := 25, ground := Ground.chain }, { on := 0, ground := Ground.phase }, { on := 1, ground := Ground.phase }, { on := 2, ground := Ground.phase }, { on := 3, ground := Ground.phase }, { on := 4, ground := Ground.phase }, { on := 5, ground := Ground.phase }, { on := 6, ground := Ground.phase }, { on := 7, ground := Ground.phase }, { on := 8, ground := Ground.phase }, { on := 9, ground := Ground.phase }, { on := 10, ground := Ground.phase }, { on := 11, ground := Ground.phase }, { on := 12, ground := Ground.phase }, { on := 13, ground := Ground.phase }, { on := 14, ground := Ground.phase }, { on := 15, ground := Ground.phase }, { on := 16, ground := Ground.phase }, { on := 17, ground := Ground.phase }, { on := 18, ground := Ground.phase }, { on := 19, ground := Ground.phase }, { on := 20, ground := Ground.phase }, { on := 21, ground := Ground.phase }, { on := 22, ground := Ground.phase }, { on := 23, ground := Ground.phase }, { on := 24, ground := Ground.phase }, { on := 25, ground := Ground.phase }], guard := none }) rfl (fun K hK => ?_) ?_
          · refine step_store9 rfl (.tmp 40) (.tmp 38) rfl rfl rfl hlk H2.out ?_
            refine hK.out _ _ HC2.out (fun hHeld => ?_)
            clear hK K
            simp only [Act.put]
            refine wpAnyH_done (by kernel_rfl) ?_ _
            go_wp2
            go_meet
            case rel => rfl
          exact AllReadyH.nil
        exact AllReadyH.nil
      exact AllReadyH.nil
    refine AllReadyH.cons (o := { dst := some 38, op := Op.load 110 (Operand.tmp 37), type := 110, pos := "l3_systems.go:63", after := #[{ on := 22, ground := Ground.data }], guard := none }) rfl (fun K hK => ?_) ?_
    · refine step_load9 rfl (.tmp 37) rfl rfl HRK.out ?_
      refine hK.out _ _ hHeld (fun hHeld => ?_)
      clear hK K
      simp only [Act.put, List.setIfInBounds_toArray, List.set_cons_zero, List.set_cons_succ]
      refine wpAnyH_ready (rs := [16]) (by kernel_rfl) (by simp) ?_
      refine AllReadyH.cons (o := { dst := some 31, op := Op.load 110 (Operand.tmp 30), type := 110, pos := "l3_systems.go:63", after := #[{ on := 15, ground := Ground.data }], guard := none }) rfl (fun K hK => ?_) ?_
      · refine step_load9 rfl (.tmp 30) rfl rfl HRI.out ?_
        refine hK.out _ _ hHeld (fun hHeld => ?_)
        clear hK K
        simp only [Act.put, List.setIfInBounds_toArray, List.set_cons_zero, List.set_cons_succ]
        refine wpAnyH_take (i := 24) (oi := { dst := some 39, op := Op.indexAddr 69 (Operand.tmp 18) (Operand.tmp 19), type := 0, pos := "l3_systems.go:63", after := #[{ on := 3, ground := Ground.data }, { on := 4, ground := Ground.data }, { on := 0, ground := Ground.phase }, { on := 1, ground := Ground.phase }, { on := 2, ground := Ground.phase }, { on := 3, ground := Ground.phase }, { on := 4, ground := Ground.phase }, { on := 5, ground := Ground.textOnly Departure.lateStores }, { on := 6, ground := Ground.textOnly Departure.lateStoresUnsure }, { on := 7, ground := Ground.textOnly Departure.lateStoresUnsure }, { on := 8, ground := Ground.phase }, { on := 9, ground := Ground.textOnly Departure.lateStores }, { on := 10, ground := Ground.phase }, { on := 11, ground := Ground.phase }, { on := 12, ground := Ground.phase }, { on := 13, ground := Ground.phase }, { on := 14, ground := Ground.phase }, { on := 15, ground := Ground.phase }, { on := 16, ground := Ground.phase }, { on := 17, ground := Ground.textOnly Departure.lateStores }, { on := 18, ground := Ground.textOnly Departure.lateStoresUnsure }, { on := 19, ground := Ground.textOnly Departure.lateStoresUnsure }, { on := 20, ground := Ground.phase }, { on := 21, ground := Ground.textOnly Departure.lateStores }, { on := 22, ground := Ground.textOnly Departure.lateStoresUnsure }, { on := 23, ground := Ground.phase }], guard := none }) (v := ?_) rfl (by kernel_rfl) (by kernel_rfl) (by kernel_rfl) (fun _ _ _ h => h) (Or.inl ⟨by rfl, ?_⟩) hHeld ?_
        rotate_left
        · intro w hSw; (try dsimp only at hSw); go_simp; (try with_reducible rfl)
        simp only [Act.put, List.setIfInBounds_toArray, List.set_cons_zero, List.set_cons_succ]
        refine wpAnyH_ready (rs := [25]) (by kernel_rfl) (by simp) ?_
        refine AllReadyH.cons (o := { dst := none, op := Op.store 110 (Operand.tmp 39) (Operand.tmp 31), type := 0, pos := "l3_systems.go:63", after := #[{ on := 24, ground := Ground.data }, { on := 16, ground := Ground.data }, { on := 0, ground := Ground.phase }, { on := 1, ground := Ground.phase }, { on := 2, ground := Ground.phase }, { on := 3, ground := Ground.phase }, { on := 4, ground := Ground.phase }, { on := 5, ground := Ground.textOnly Departure.lateStores }, { on := 6, ground := Ground.textOnly Departure.lateStoresUnsure }, { on := 7, ground := Ground.textOnly Departure.lateStoresUnsure }, { on := 8, ground := Ground.phase }, { on := 9, ground := Ground.textOnly Departure.lateStores }, { on := 10, ground := Ground.phase }, { on := 11, ground := Ground.phase }, { on := 12, ground := Ground.phase }, { on := 13, ground := Ground.phase }, { on := 14, ground := Ground.phase }, { on := 15, ground := Ground.phase }, { on := 16, ground := Ground.phase }, { on := 17, ground := Ground.textOnly Departure.lateStores }, { on := 18, ground := Ground.textOnly Departure.lateStoresUnsure }, { on := 19, ground := Ground.textOnly Departure.lateStoresUnsure }, { on := 20, ground := Ground.phase }, { on := 21, ground := Ground.textOnly Departure.lateStores }, { on := 22, ground := Ground.textOnly Departure.lateStoresUnsure }, { on := 23, ground := Ground.phase }], guard := none }) rfl (fun K hK => ?_) ?_
        · refine step_store9 rfl (.tmp 39) (.tmp 31) rfl rfl rfl hli H1.out ?_
          refine hK.out _ _ HC1.out (fun hHeld => ?_)
          clear hK K
          simp only [Act.put]
          refine wpAnyH_take (i := 26) (oi := { dst := some 40, op := Op.indexAddr 69 (Operand.tmp 23) (Operand.tmp 24), type := 0, pos := "l3_systems.go:63", after := #[{ on := 8, ground := Ground.data }, { on := 9, ground := Ground.data }, { on := 0, ground := Ground.phase }, { on := 1, ground := Ground.phase }, { on := 2, ground := Ground.phase }, { on := 3, ground := Ground.phase }, { on := 4, ground := Ground.phase }, { on := 5, ground := Ground.phase }, { on := 6, ground := Ground.phase }, { on := 7, ground := Ground.phase }, { on := 8, ground := Ground.phase }, { on := 9, ground := Ground.phase }, { on := 10, ground := Ground.phase }, { on := 11, ground := Ground.phase }, { on := 12, ground := Ground.phase }, { on := 13, ground := Ground.phase }, { on := 14, ground := Ground.phase }, { on := 15, ground := Ground.phase }, { on := 16, ground := Ground.phase }, { on := 17, ground := Ground.phase }, { on := 18, ground := Ground.phase }, { on := 19, ground := Ground.phase }, { on := 20, ground := Ground.phase }, { on := 21, ground := Ground.phase }, { on := 22, ground := Ground.phase }, { on := 23, ground := Ground.phase }, { on := 24, ground := Ground.phase }, { on := 25, ground := Ground.phase }], guard := none }) (v := ?_) rfl (by kernel_rfl) (by kernel_rfl) (by kernel_rfl) (fun _ _ _ h => h) (Or.inl ⟨by rfl, ?_⟩) hHeld ?_
          rotate_left
          · intro w hSw; (try dsimp only at hSw); go_simp; (try with_reducible rfl)
          simp only [Act.put, List.setIfInBounds_toArray, List.set_cons_zero, List.set_cons_succ]
          refine wpAnyH_ready (rs := [27]) (by kernel_rfl) (by simp) ?_
          refine AllReadyH.cons (o := { dst := none, op := Op.store 110 (Operand.tmp 40) (Operand.tmp 38), type := 0, pos := "l3_systems.go:63", after := #[{ on := 26, ground := Ground.data }, { on := 23, ground := Ground.data }, { on := 25, ground := Ground.chain }, { on := 0, ground := Ground.phase }, { on := 1, ground := Ground.phase }, { on := 2, ground := Ground.phase }, { on := 3, ground := Ground.phase }, { on := 4, ground := Ground.phase }, { on := 5, ground := Ground.phase }, { on := 6, ground := Ground.phase }, { on := 7, ground := Ground.phase }, { on := 8, ground := Ground.phase }, { on := 9, ground := Ground.phase }, { on := 10, ground := Ground.phase }, { on := 11, ground := Ground.phase }, { on := 12, ground := Ground.phase }, { on := 13, ground := Ground.phase }, { on := 14, ground := Ground.phase }, { on := 15, ground := Ground.phase }, { on := 16, ground := Ground.phase }, { on := 17, ground := Ground.phase }, { on := 18, ground := Ground.phase }, { on := 19, ground := Ground.phase }, { on := 20, ground := Ground.phase }, { on := 21, ground := Ground.phase }, { on := 22, ground := Ground.phase }, { on := 23, ground := Ground.phase }, { on := 24, ground := Ground.phase }, { on := 25, ground := Ground.phase }], guard := none }) rfl (fun K hK => ?_) ?_
          · refine step_store9 rfl (.tmp 40) (.tmp 38) rfl rfl rfl hlk H2.out ?_
            refine hK.out _ _ HC2.out (fun hHeld => ?_)
            clear hK K
            simp only [Act.put]
            refine wpAnyH_done (by kernel_rfl) ?_ _
            go_wp2
            go_meet
            case rel => rfl
          exact AllReadyH.nil
        exact AllReadyH.nil
      exact AllReadyH.nil
    exact AllReadyH.nil
  case rest =>
    obtain rfl : w2 = wc := hcut.symm
    clear HRI HRK H1 H2 HC1 hs0 hs1 HG1 hzi hzk
    have hz2 : w.heap.size ≤ w2.heap.size := HK2.out.size
    have l0 : g0 < w2.heap.size := by have := LL.out.1; omega
    have ls : gs < w2.heap.size := by have := LL.out.2.1; omega
    have hsc0 : w2.cell? ⟨gs, 0, none⟩ = some (.slice (some ⟨g0, 0, none⟩) n cr) := HC2.out
    obtain ⟨yS, hyS⟩ : ∃ y, y = S.getD kt [] := ⟨_, rfl⟩
    have hkS : kt < S.length := by have := HSL.out; omega
    have hlS : yS.length = 9 := by rw [hyS]; exact HSW.out _ hkS
    have HNS : Hid (Nums yS) := Lib.hid (by rw [hyS]; exact HSN.out _ hkS)
    have HRS : Hid (R9 w2.drew g0 (kt * 9) yS) := Lib.hid (by rw [hyS]; exact HO2.out.r9R HSW.out hkS)
    obtain ⟨z, hcz, HZQ⟩ := HO2.out.atR HSW.out hkS (show c < 9 by omega)
    rw [← hyS] at HZQ
    have z0 : 0 ≤ z := by rw [HZQ.out]; exact (HNS.out c).1
    have z1 : z ≤ 112 := by rw [HZQ.out]; exact (HNS.out c).2
    have v0 : 0 ≤ powI z 111 113 := powI_lo _ _ _
    have v1 : powI z 111 113 ≤ 112 := by have := powI_hi z 111 113 (by omega); omega
    have HONE : Hid (rt yS (powI z 111 113) = oneOf S c kt) := Lib.hid (by rw [HZQ.out, hyS]; rfl)
    have hl1 : (rt yS (powI z 111 113)).length = 9 := by rw [rt_length]; exact hlS
    have HN1 : Hid (Nums (rt yS (powI z 111 113))) := Lib.hid (nums_rt hlS HNS.out)
    have i0 : (0 : Int) ≤ (c : Int) := by omega
    have i9 : (c : Int) < 9 := by omega
    clear HC2 hyS hkS HZQ
    go_upto_region 2 with (fail)
    go_cut [7] from 41 (fun p w' => ∃ g7 : Nat, p = .pointer (some ⟨g7, 0, none⟩) ∧ Hid (w2.heap.size ≤ g7 ∧ g7 < w'.heap.size ∧ Below w2.heap.size w2 w' ∧ R9 w' g7 0 (rt yS (powI z 111 113))))
    case first =>
      obtain ⟨SS, hSS⟩ : ∃ SS : World → Prop, SS = fun w' => w'.cell? ⟨gs, 0, none⟩ = some (.slice (some ⟨g0, 0, none⟩) n cr) ∧ w'.cell? ⟨g0, kt * 9 + c, none⟩ = some (.int .i64 z) ∧ R9 w' g0 (kt * 9) yS ∧ Below w2.heap.size w2 w' := ⟨_, rfl⟩
      have hSBel : ∀ W, SS W → Below w2.heap.size w2 W := fun W h => by rw [hSS] at h; exact h.2.2.2
      have hSZ : ∀ W, SS W → w2.heap.size ≤ W.heap.size := fun W h => (hSBel W h).size
      have hSL : ∀ W W' : World, Below W.heap.size W W' → W.heap.size ≤ W'.heap.size := fun _ _ h => h.size
      have hSB0 : ∀ W W', SS W → Below w2.heap.size W W' → SS W' := fun W W' h hb => by
        rw [hSS] at h ⊢
        exact ⟨(hb.cell (p := ⟨gs, 0, none⟩) ls).trans h.1, (hb.cell (p := ⟨g0, kt * 9 + c, none⟩) l0).trans h.2.1, h.2.2.1.keep hb l0, h.2.2.2.trans hb⟩
      have hSB : ∀ W W', SS W → Below W.heap.size W W' → SS W' := fun W W' h hb => hSB0 W W' h (hb.mono (hSZ W h))
      have hSA : ∀ W o, SS W → SS (W.alloc o) := fun W o h => hSB W _ h ((Below.refl _ _).alloc (Nat.le_refl _) _)
      have hSB2 : ∀ W W' g, SS W → Kept g (g + 1) W W' → w2.heap.size ≤ g → g ≤ W.heap.size → SS W' := fun W W' g h hk hg hz => hSB0 W W' h ((hk.to_below hz).mono hg)
      have hS0 : SS w2.drew := by rw [hSS]; exact ⟨hsc0, hcz, HRS.out, below_drew (Below.refl _ _)⟩
      refine wp_region_held_drew (S := SS) (by kernel_rfl) hS0 (fun hHeld => ?_)
      clear hsc0 hcz
      refine wpAnyH_take (i := 0) (oi := { dst := some 41, op := Op.move (Operand.tmp 0), type := 140, pos := "l3_systems.go:64", after := #[], guard := none }) (v := ?_) rfl (by kernel_rfl) (by kernel_rfl) (by kernel_rfl) (fun _ _ _ h => h) (Or.inl ⟨by rfl, ?_⟩) hHeld ?_
      rotate_left
      · intro w hSw; rw [hSS] at hSw; obtain ⟨hq1, hq2, hq3, hq4⟩ := hSw; clear hq3 hq4; (try dsimp only at hSw); go_simp; (try with_reducible rfl)
      try simp only [Act.put, List.setIfInBounds_toArray, List.set_cons_zero, List.set_cons_succ]
      refine wpAnyH_take (i := 1) (oi := { dst := some 42, op := Op.nilCheck (Operand.tmp 41), type := 0, pos := "l3_systems.go:64", after := #[{ on := 0, ground := Ground.data }], guard := none }) (v := ?_) rfl (by kernel_rfl) (by kernel_rfl) (by kernel_rfl) (fun _ _ _ h => h) (Or.inl ⟨by rfl, ?_⟩) hHeld ?_
      rotate_left
      · intro w hSw; rw [hSS] at hSw; obtain ⟨hq1, hq2, hq3, hq4⟩ := hSw; clear hq3 hq4; (try dsimp only at hSw); go_simp; (try with_reducible rfl)
      try simp only [Act.put, List.setIfInBounds_toArray, List.set_cons_zero, List.set_cons_succ]
      refine wpAnyH_take (i := 2) (oi := { dst := some 43, op := Op.fieldAddr 71 (Operand.tmp 42) 0, type := 0, pos := "l3_systems.go:64", after := #[{ on := 1, ground := Ground.data }], guard := none }) (v := ?_) rfl (by kernel_rfl) (by kernel_rfl) (by kernel_rfl) (fun _ _ _ h => h) (Or.inl ⟨by rfl, ?_⟩) hHeld ?_
      rotate_left
      · intro w hSw; rw [hSS] at hSw; obtain ⟨hq1, hq2, hq3, hq4⟩ := hSw; clear hq3 hq4; (try dsimp only at hSw); go_simp; (try with_reducible rfl)
      try simp only [Act.put, List.setIfInBounds_toArray, List.set_cons_zero, List.set_cons_succ]
      refine wpAnyH_take (i := 3) (oi := { dst := some 44, op := Op.load 69 (Operand.tmp 43), type := 69, pos := "l3_systems.go:64", after := #[{ on := 2, ground := Ground.data }], guard := none }) (v := ?_) rfl (by kernel_rfl) (by kernel_rfl) (by kernel_rfl) (fun _ _ _ h => h) (Or.inl ⟨by rfl, ?_⟩) hHeld ?_
      rotate_left
      · intro w hSw; rw [hSS] at hSw; obtain ⟨hq1, hq2, hq3, hq4⟩ := hSw; clear hq3 hq4; (try dsimp only at hSw); go_simp; (try with_reducible rfl)
      try simp only [Act.put, List.setIfInBounds_toArray, List.set_cons_zero, List.set_cons_succ]
      refine wpAnyH_take (i := 4) (oi := { dst := some 45, op := Op.move (Operand.tmp 6), type := 3, pos := "l3_systems.go:64", after := #[], guard := none }) (v := ?_) rfl (by kernel_rfl) (by kernel_rfl) (by kernel_rfl) (fun _ _ _ h => h) (Or.inl ⟨by rfl, ?_⟩) hHeld ?_
      rotate_left
      · intro w hSw; rw [hSS] at hSw; obtain ⟨hq1, hq2, hq3, hq4⟩ := hSw; clear hq3 hq4; (try dsimp only at hSw); go_simp; (try with_reducible rfl)
      try simp only [Act.put, List.setIfInBounds_toArray, List.set_cons_zero, List.set_cons_succ]
      refine wpAnyH_take (i := 5) (oi := { dst := some 46, op := Op.indexAddr 69 (Operand.tmp 44) (Operand.tmp 45), type := 0, pos := "l3_systems.go:64", after := #[{ on := 3, ground := Ground.data }, { on := 4, ground := Ground.data }], guard := none }) (v := ?_) rfl (by kernel_rfl) (by kernel_rfl) (by kernel_rfl) (fun _ _ _ h => h) (Or.inl ⟨by rfl, ?_⟩) hHeld ?_
      rotate_left
      · intro w hSw; rw [hSS] at hSw; obtain ⟨hq1, hq2, hq3, hq4⟩ := hSw; clear hq3 hq4; (try dsimp only at hSw); go_simp; (try with_reducible rfl)
      try simp only [Act.put, List.setIfInBounds_toArray, List.set_cons_zero, List.set_cons_succ]
      refine wpAnyH_take (i := 6) (oi := { dst := some 47, op := Op.load 110 (Operand.tmp 46), type := 110, pos := "l3_systems.go:64", after := #[{ on := 5, ground := Ground.data }], guard := none }) rfl (by kernel_rfl) (by kernel_rfl) (by kernel_rfl) (fun _ _ _ h => h) (yield9 rfl (.tmp 46) rfl rfl (fun w hw => by rw [hSS] at hw; exact hw.2.2.1) hlS) hHeld ?_
      try simp only [Act.put, List.setIfInBounds_toArray, List.set_cons_zero, List.set_cons_succ]
      refine wpAnyH_take (i := 7) (oi := { dst := some 48, op := Op.move (Operand.tmp 0), type := 140, pos := "l3_systems.go:64", after := #[], guard := none }) (v := ?_) rfl (by kernel_rfl) (by kernel_rfl) (by kernel_rfl) (fun _ _ _ h => h) (Or.inl ⟨by rfl, ?_⟩) hHeld ?_
      rotate_left
      · intro w hSw; rw [hSS] at hSw; obtain ⟨hq1, hq2, hq3, hq4⟩ := hSw; clear hq3 hq4; (try dsimp only at hSw); go_simp; (try with_reducible rfl)
      try simp only [Act.put, List.setIfInBounds_toArray, List.set_cons_zero, List.set_cons_succ]
      refine wpAnyH_take (i := 8) (oi := { dst := some 49, op := Op.nilCheck (Operand.tmp 48), type := 0, pos := "l3_systems.go:64", after := #[{ on := 7, ground := Ground.data }], guard := none }) (v := ?_) rfl (by kernel_rfl) (by kernel_rfl) (by kernel_rfl) (fun _ _ _ h => h) (Or.inl ⟨by rfl, ?_⟩) hHeld ?_
      rotate_left
      · intro w hSw; rw [hSS] at hSw; obtain ⟨hq1, hq2, hq3, hq4⟩ := hSw; clear hq3 hq4; (try dsimp only at hSw); go_simp; (try with_reducible rfl)
      try simp only [Act.put, List.setIfInBounds_toArray, List.set_cons_zero, List.set_cons_succ]
      refine wpAnyH_take (i := 9) (oi := { dst := some 50, op := Op.fieldAddr 71 (Operand.tmp 49) 0, type := 0, pos := "l3_systems.go:64", after := #[{ on := 8, ground := Ground.data }], guard := none }) (v := ?_) rfl (by kernel_rfl) (by kernel_rfl) (by kernel_rfl) (fun _ _ _ h => h) (Or.inl ⟨by rfl, ?_⟩) hHeld ?_
      rotate_left
      · intro w hSw; rw [hSS] at hSw; obtain ⟨hq1, hq2, hq3, hq4⟩ := hSw; clear hq3 hq4; (try dsimp only at hSw); go_simp; (try with_reducible rfl)
      try simp only [Act.put, List.setIfInBounds_toArray, List.set_cons_zero, List.set_cons_succ]
      refine wpAnyH_take (i := 10) (oi := { dst := some 51, op := Op.load 69 (Operand.tmp 50), type := 69, pos := "l3_systems.go:64", after := #[{ on := 9, ground := Ground.data }], guard := none }) (v := ?_) rfl (by kernel_rfl) (by kernel_rfl) (by kernel_rfl) (fun _ _ _ h => h) (Or.inl ⟨by rfl, ?_⟩) hHeld ?_
      rotate_left
      · intro w hSw; rw [hSS] at hSw; obtain ⟨hq1, hq2, hq3, hq4⟩ := hSw; clear hq3 hq4; (try dsimp only at hSw); go_simp; (try with_reducible rfl)
      try simp only [Act.put, List.setIfInBounds_toArray, List.set_cons_zero, List.set_cons_succ]
      refine wpAnyH_take (i := 11) (oi := { dst := some 52, op := Op.move (Operand.tmp 6), type := 3, pos := "l3_systems.go:64", after := #[], guard := none }) (v := ?_) rfl (by kernel_rfl) (by kernel_rfl) (by kernel_rfl) (fun _ _ _ h => h) (Or.inl ⟨by rfl, ?_⟩) hHeld ?_
      rotate_left
      · intro w hSw; rw [hSS] at hSw; obtain ⟨hq1, hq2, hq3, hq4⟩ := hSw; clear hq3 hq4; (try dsimp only at hSw); go_simp; (try with_reducible rfl)
      try simp only [Act.put, List.setIfInBounds_toArray, List.set_cons_zero, List.set_cons_succ]
      refine wpAnyH_take (i := 12) (oi := { dst := some 53, op := Op.move (Operand.tmp 1), type := 3, pos := "l3_systems.go:64", after := #[], guard := none }) (v := ?_) rfl (by kernel_rfl) (by kernel_rfl) (by kernel_rfl) (fun _ _ _ h => h) (Or.inl ⟨by rfl, ?_⟩) hHeld ?_
      rotate_left
      · intro w hSw; rw [hSS] at hSw; obtain ⟨hq1, hq2, hq3, hq4⟩ := hSw; clear hq3 hq4; (try dsimp only at hSw); go_simp; (try with_reducible rfl)
      try simp only [Act.put, List.setIfInBounds_toArray, List.set_cons_zero, List.set_cons_succ]
      refine wpAnyH_take (i := 13) (oi := { dst := some 54, op := Op.indexAddr 69 (Operand.tmp 51) (Operand.tmp 52), type := 0, pos := "l3_systems.go:64", after := #[{ on := 10, ground := Ground.data }, { on := 11, ground := Ground.data }], guard := none }) (v := ?_) rfl (by kernel_rfl) (by kernel_rfl) (by kernel_rfl) (fun _ _ _ h => h) (Or.inl ⟨by rfl, ?_⟩) hHeld ?_
      rotate_left
      · intro w hSw; rw [hSS] at hSw; obtain ⟨hq1, hq2, hq3, hq4⟩ := hSw; clear hq3 hq4; (try dsimp only at hSw); go_simp; (try with_reducible rfl)
      try simp only [Act.put, List.setIfInBounds_toArray, List.set_cons_zero, List.set_cons_succ]
      refine wpAnyH_take (i := 14) (oi := { dst := some 55, op := Op.indexAddr 110 (Operand.tmp 54) (Operand.tmp 53), type := 0, pos := "l3_systems.go:64", after := #[{ on := 13, ground := Ground.data }, { on := 12, ground := Ground.data }], guard := none }) (v := ?_) rfl (by kernel_rfl) (by kernel_rfl) (by kernel_rfl) (fun _ _ _ h => h) (Or.inl ⟨by rfl, ?_⟩) hHeld ?_
      rotate_left
      · intro w hSw; rw [hSS] at hSw; obtain ⟨hq1, hq2, hq3, hq4⟩ := hSw; clear hq3 hq4; (try dsimp only at hSw); go_simp; (try with_reducible rfl)
      try simp only [Act.put, List.setIfInBounds_toArray, List.set_cons_zero, List.set_cons_succ]
      refine wpAnyH_take (i := 15) (oi := { dst := some 56, op := Op.load 67 (Operand.tmp 55), type := 67, pos := "l3_systems.go:64", after := #[{ on := 14, ground := Ground.data }], guard := none }) (v := ?_) rfl (by kernel_rfl) (by kernel_rfl) (by kernel_rfl) (fun _ _ _ h => h) (Or.inl ⟨by rfl, ?_⟩) hHeld ?_
      rotate_left
      · intro w hSw; rw [hSS] at hSw; obtain ⟨hq1, hq2, hq3, hq4⟩ := hSw; clear hq3 hq4; (try dsimp only at hSw); go_simp; (try with_reducible rfl)
      try simp only [Act.put, List.setIfInBounds_toArray, List.set_cons_zero, List.set_cons_succ]
      refine wpAnyH_ready (rs := [16, 18]) (by kernel_rfl) (by simp) ?_
      refine AllReadyH.cons (o := { dst := some 57, op := Op.call { callee := Callee.value (Operand.func 111), args := #[Operand.tmp 56], argTypes := #[67] }, type := 67, pos := "l3_systems.go:64", after := #[{ on := 15, ground := Ground.data }], guard := none }) rfl (fun K hK => ?_) ?_
      · go_simp
        refine (i_inverse _ _ z0 z1).mono ?_
        rintro e w' ⟨rfl, rfl⟩
        go_wp2_with fail
        refine hK.out _ _ hHeld (fun hHeld => ?_)
        clear hK K
        try simp only [Act.put, List.setIfInBounds_toArray, List.set_cons_zero, List.set_cons_succ]
        refine wpAnyH_ready (rs := [17, 18]) (by kernel_rfl) (by simp) ?_
        refine AllReadyH.cons (o := { dst := some 58, op := Op.call { callee := Callee.value (Operand.func 110), args := #[Operand.tmp 47, Operand.tmp 57], argTypes := #[110, 67] }, type := 110, pos := "l3_systems.go:64", after := #[{ on := 6, ground := Ground.data }, { on := 16, ground := Ground.data }, { on := 16, ground := Ground.chain }], guard := none }) rfl (fun K hK => ?_) ?_
        · go_simp
          refine (i_row_times _ _ _ hlS HNS.out v0 v1).mono ?_
          rintro e w3 ⟨rfl, hb3⟩
          have hS3 := hSB _ _ hHeld hb3
          clear hHeld
          have HB3 := Lib.hid hb3
          clear hb3
          go_wp2_with fail
          refine hK.out _ _ hS3 (fun hHeld => ?_)
          clear hK K
          try simp only [Act.put, List.setIfInBounds_toArray, List.set_cons_zero, List.set_cons_succ]
          refine wpAnyH_ready (rs := [18]) (by kernel_rfl) (by simp) ?_
          refine AllReadyH.cons (o := { dst := some 7, op := Op.alloc 110, type := 0, pos := "l3_systems.go:64", after := #[], guard := none }) rfl (fun K hK => ?_) ?_
          · go_simp
            refine hK.out _ _ (hSA _ _ hHeld) (fun hHeld => ?_)
            clear hK K
            try simp only [Act.put, List.setIfInBounds_toArray, List.set_cons_zero, List.set_cons_succ]
            refine wpAnyH_ready (rs := [19]) (by kernel_rfl) (by simp) ?_
            refine AllReadyH.cons (o := { dst := none, op := Op.store 110 (Operand.tmp 7) (Operand.tmp 58), type := 0, pos := "l3_systems.go:64", after := #[{ on := 18, ground := Ground.data }, { on := 17, ground := Ground.data }, { on := 17, ground := Ground.chain }, { on := 0, ground := Ground.phase }, { on := 1, ground := Ground.phase }, { on := 2, ground := Ground.phase }, { on := 3, ground := Ground.phase }, { on := 4, ground := Ground.phase }, { on := 5, ground := Ground.phase }, { on := 6, ground := Ground.phase }, { on := 7, ground := Ground.phase }, { on := 8, ground := Ground.phase }, { on := 9, ground := Ground.phase }, { on := 10, ground := Ground.phase }, { on := 11, ground := Ground.phase }, { on := 12, ground := Ground.phase }, { on := 13, ground := Ground.phase }, { on := 14, ground := Ground.phase }, { on := 15, ground := Ground.phase }, { on := 16, ground := Ground.phase }, { on := 17, ground := Ground.phase }, { on := 18, ground := Ground.phase }], guard := none }) rfl (fun K hK => ?_) ?_
            · have HZ3 := ow_new9 w3 #[.int .i64 0, .int .i64 0, .int .i64 0, .int .i64 0, .int .i64 0, .int .i64 0, .int .i64 0, .int .i64 0, .int .i64 0] (List.replicate 9 0) 110 rfl rfl
              obtain ⟨w4, hst4, ho4, hk4, hz4⟩ := HZ3.st9 (P := Try.prog) (x := rt yS (powI z 111 113)) hl1
              refine step_store9 rfl (.tmp 7) (.tmp 58) rfl rfl rfl hl1 hst4 ?_
              have hS4 := hSB2 _ _ _ hHeld hk4 (by exact hSZ _ hS3) (by simp)
              refine hK.out _ _ hS4 (fun hHeld => ?_)
              clear hK K
              try simp only [Act.put]
              refine wpAnyH_done (by kernel_rfl) ?_ _
              go_wp2
              go_meet
              case rel =>
                have hq := hSZ _ hS3
                have hq2 := HB3.out.size
                exact ⟨_, rfl, Lib.hid ⟨by simp at hq hq2 ⊢ <;> omega, by rw [hz4]; simp at hq hq2 ⊢ <;> omega, hSBel _ hHeld, ho4.r9⟩⟩
            exact AllReadyH.nil
          exact AllReadyH.nil
        refine AllReadyH.cons (o := { dst := some 7, op := Op.alloc 110, type := 0, pos := "l3_systems.go:64", after := #[], guard := none }) rfl (fun K hK => ?_) ?_
        · go_simp
          refine hK.out _ _ (hSA _ _ hHeld) (fun hHeld => ?_)
          clear hK K
          try simp only [Act.put, List.setIfInBounds_toArray, List.set_cons_zero, List.set_cons_succ]
          refine wpAnyH_ready (rs := [17]) (by kernel_rfl) (by simp) ?_
          refine AllReadyH.cons (o := { dst := some 58, op := Op.call { callee := Callee.value (Operand.func 110), args := #[Operand.tmp 47, Operand.tmp 57], argTypes := #[110, 67] }, type := 110, pos := "l3_systems.go:64", after := #[{ on := 6, ground := Ground.data }, { on := 16, ground := Ground.data }, { on := 16, ground := Ground.chain }], guard := none }) rfl (fun K hK => ?_) ?_
          · go_simp
            refine (i_row_times _ _ _ hlS HNS.out v0 v1).mono ?_
            rintro e w3 ⟨rfl, hb3⟩
            have hS3 := hSB _ _ hHeld hb3
            clear hHeld
            have HZ3 := (ow_new9 w2.drew #[.int .i64 0, .int .i64 0, .int .i64 0, .int .i64 0, .int .i64 0, .int .i64 0, .int .i64 0, .int .i64 0, .int .i64 0] (List.replicate 9 0) 110 rfl rfl).below hb3 (by simp)
            have HB3 := Lib.hid hb3
            clear hb3
            go_wp2_with fail
            refine hK.out _ _ hS3 (fun hHeld => ?_)
            clear hK K
            try simp only [Act.put, List.setIfInBounds_toArray, List.set_cons_zero, List.set_cons_succ]
            refine wpAnyH_ready (rs := [19]) (by kernel_rfl) (by simp) ?_
            refine AllReadyH.cons (o := { dst := none, op := Op.store 110 (Operand.tmp 7) (Operand.tmp 58), type := 0, pos := "l3_systems.go:64", after := #[{ on := 18, ground := Ground.data }, { on := 17, ground := Ground.data }, { on := 17, ground := Ground.chain }, { on := 0, ground := Ground.phase }, { on := 1, ground := Ground.phase }, { on := 2, ground := Ground.phase }, { on := 3, ground := Ground.phase }, { on := 4, ground := Ground.phase }, { on := 5, ground := Ground.phase }, { on := 6, ground := Ground.phase }, { on := 7, ground := Ground.phase }, { on := 8, ground := Ground.phase }, { on := 9, ground := Ground.phase }, { on := 10, ground := Ground.phase }, { on := 11, ground := Ground.phase }, { on := 12, ground := Ground.phase }, { on := 13, ground := Ground.phase }, { on := 14, ground := Ground.phase }, { on := 15, ground := Ground.phase }, { on := 16, ground := Ground.phase }, { on := 17, ground := Ground.phase }, { on := 18, ground := Ground.phase }], guard := none }) rfl (fun K hK => ?_) ?_
            · obtain ⟨w4, hst4, ho4, hk4, hz4⟩ := HZ3.st9 (P := Try.prog) (x := rt yS (powI z 111 113)) hl1
              refine step_store9 rfl (.tmp 7) (.tmp 58) rfl rfl rfl hl1 hst4 ?_
              have hS4 := hSB2 _ _ _ hHeld hk4 (by simp) (by have := HB3.out.size; simp at this ⊢; omega)
              refine hK.out _ _ hS4 (fun hHeld => ?_)
              clear hK K
              try simp only [Act.put]
              refine wpAnyH_done (by kernel_rfl) ?_ _
              go_wp2
              go_meet
              case rel =>
                have hq := hSZ _ hS3
                have hq2 := HB3.out.size
                exact ⟨_, rfl, Lib.hid ⟨by simp at hq hq2 ⊢ <;> omega, by rw [hz4]; simp at hq hq2 ⊢ <;> omega, hSBel _ hHeld, ho4.r9⟩⟩
            exact AllReadyH.nil
          exact AllReadyH.nil
        exact AllReadyH.nil
      refine AllReadyH.cons (o := { dst := some 7, op := Op.alloc 110, type := 0, pos := "l3_systems.go:64", after := #[], guard := none }) rfl (fun K hK => ?_) ?_
      · go_simp
        refine hK.out _ _ (hSA _ _ hHeld) (fun hHeld => ?_)
        clear hK K
        try simp only [Act.put, List.setIfInBounds_toArray, List.set_cons_zero, List.set_cons_succ]
        refine wpAnyH_ready (rs := [16]) (by kernel_rfl) (by simp) ?_
        refine AllReadyH.cons (o := { dst := some 57, op := Op.call { callee := Callee.value (Operand.func 111), args := #[Operand.tmp 56], argTypes := #[67] }, type := 67, pos := "l3_systems.go:64", after := #[{ on := 15, ground := Ground.data }], guard := none }) rfl (fun K hK => ?_) ?_
        · go_simp
          refine (i_inverse _ _ z0 z1).mono ?_
          rintro e w' ⟨rfl, rfl⟩
          go_wp2_with fail
          refine hK.out _ _ hHeld (fun hHeld => ?_)
          clear hK K
          try simp only [Act.put, List.setIfInBounds_toArray, List.set_cons_zero, List.set_cons_succ]
          refine wpAnyH_ready (rs := [17]) (by kernel_rfl) (by simp) ?_
          refine AllReadyH.cons (o := { dst := some 58, op := Op.call { callee := Callee.value (Operand.func 110), args := #[Operand.tmp 47, Operand.tmp 57], argTypes := #[110, 67] }, type := 110, pos := "l3_systems.go:64", after := #[{ on := 6, ground := Ground.data }, { on := 16, ground := Ground.data }, { on := 16, ground := Ground.chain }], guard := none }) rfl (fun K hK => ?_) ?_
          · go_simp
            refine (i_row_times _ _ _ hlS HNS.out v0 v1).mono ?_
            rintro e w3 ⟨rfl, hb3⟩
            have hS3 := hSB _ _ hHeld hb3
            clear hHeld
            have HZ3 := (ow_new9 w2.drew #[.int .i64 0, .int .i64 0, .int .i64 0, .int .i64 0, .int .i64 0, .int .i64 0, .int .i64 0, .int .i64 0, .int .i64 0] (List.replicate 9 0) 110 rfl rfl).below hb3 (by simp)
            have HB3 := Lib.hid hb3
            clear hb3
            go_wp2_with fail
            refine hK.out _ _ hS3 (fun hHeld => ?_)
            clear hK K
            try simp only [Act.put, List.setIfInBounds_toArray, List.set_cons_zero, List.set_cons_succ]
            refine wpAnyH_ready (rs := [19]) (by kernel_rfl) (by simp) ?_
            refine AllReadyH.cons (o := { dst := none, op := Op.store 110 (Operand.tmp 7) (Operand.tmp 58), type := 0, pos := "l3_systems.go:64", after := #[{ on := 18, ground := Ground.data }, { on := 17, ground := Ground.data }, { on := 17, ground := Ground.chain }, { on := 0, ground := Ground.phase }, { on := 1, ground := Ground.phase }, { on := 2, ground := Ground.phase }, { on := 3, ground := Ground.phase }, { on := 4, ground := Ground.phase }, { on := 5, ground := Ground.phase }, { on := 6, ground := Ground.phase }, { on := 7, ground := Ground.phase }, { on := 8, ground := Ground.phase }, { on := 9, ground := Ground.phase }, { on := 10, ground := Ground.phase }, { on := 11, ground := Ground.phase }, { on := 12, ground := Ground.phase }, { on := 13, ground := Ground.phase }, { on := 14, ground := Ground.phase }, { on := 15, ground := Ground.phase }, { on := 16, ground := Ground.phase }, { on := 17, ground := Ground.phase }, { on := 18, ground := Ground.phase }], guard := none }) rfl (fun K hK => ?_) ?_
            · obtain ⟨w4, hst4, ho4, hk4, hz4⟩ := HZ3.st9 (P := Try.prog) (x := rt yS (powI z 111 113)) hl1
              refine step_store9 rfl (.tmp 7) (.tmp 58) rfl rfl rfl hl1 hst4 ?_
              have hS4 := hSB2 _ _ _ hHeld hk4 (by simp) (by have := HB3.out.size; simp at this ⊢; omega)
              refine hK.out _ _ hS4 (fun hHeld => ?_)
              clear hK K
              try simp only [Act.put]
              refine wpAnyH_done (by kernel_rfl) ?_ _
              go_wp2
              go_meet
              case rel =>
                have hq := hSZ _ hS3
                have hq2 := HB3.out.size
                exact ⟨_, rfl, Lib.hid ⟨by simp at hq hq2 ⊢ <;> omega, by rw [hz4]; simp at hq hq2 ⊢ <;> omega, hSBel _ hHeld, ho4.r9⟩⟩
            exact AllReadyH.nil
          exact AllReadyH.nil
        exact AllReadyH.nil
      exact AllReadyH.nil
    case rest =>
      obtain ⟨g7, rfl, HG7⟩ := hcut
      have h7 : w2.heap.size ≤ g7 := HG7.out.1
      have h78 : g7 < wc.heap.size := HG7.out.2.1
      have hbc : Below w2.heap.size w2 wc := HG7.out.2.2.1
      have HR4 : Hid (R9 wc g7 0 (oneOf S c kt)) := Lib.hid (by rw [← HONE.out]; exact HG7.out.2.2.2)
      rw [HONE.out] at hl1 HN1
      have HO4 := Lib.hid (HO2.out.below hbc (by omega))
      have HG4 : Hid (wc.heap[gs]? = some (.cells (sysC g0 n cr (.slice At kt ct) dv) 71 (0, 0))) := Lib.hid (by rw [hbc.block gs ls]; exact HG2.out)
      have HK4 : Hid (KeptS (fun k => k = g0 ∨ k = gs) w wc) := Lib.hid (HK2.out.trans (KeptS.of_below hbc))
      have HS4 : Hid (g7 < wc.heap.size) := Lib.hid h78
      have h7s : g7 ≠ gs ∧ g7 ≠ g0 := ⟨by omega, by omega⟩
      have hsc4 : wc.cell? ⟨gs, 0, none⟩ = some (.slice (some ⟨g0, 0, none⟩) n cr) := block_cell HG4.out rfl
      clear HG7 hbc HO2 HG2 HK2 HRS hcz h78 v0 v1 hsc0
      go_wp2
      clear hsc4
      go_loopw [64] (fun i wr => ∃ k : Nat, k ≤ n ∧ i = .int .i64 k ∧ Hid (Ow wr g0 (g0 + 1) 110 9 (some ⟨g0, 0, none⟩) n cr (cR (takeI S (oneOf S c kt) c k))) ∧ Hid (wr.heap[gs]? = some (.cells (sysC g0 n cr (.slice At kt ct) dv) 71 (0, 0))) ∧ Hid (R9 wr g7 0 (oneOf S c kt)) ∧ Hid (KeptS (fun k => k = g0 ∨ k = gs) w wr) ∧ Hid (g7 < wr.heap.size)) (fun i _ => n - (intOf i).toNat)
      case atStart => exact ⟨0, Nat.zero_le _, rfl, HO4, HG4, HR4, HK4, HS4⟩
      case round =>
        clear HO4 HG4 HR4 HK4 HS4
        obtain ⟨k, hkn, rfl, HO, HG, HR, HK, HS⟩ := hrel
        have l7 : g7 < wr.heap.size := HS.out
        by_cases hlt : k < n
        · have HLk : Hid (k < (takeI S (oneOf S c kt) c k).length) := Lib.hid (by rw [takeI_length, HSL.out]; exact hlt)
          have HWk : Hid (W9 (takeI S (oneOf S c kt) c k)) := Lib.hid (HSW.out.take k (by rw [HSL.out]; exact hkn))
          obtain ⟨yk, hyS⟩ : ∃ y, y = S.getD k [] := ⟨_, rfl⟩
          have HYk : Hid ((takeI S (oneOf S c kt) c k).getD k [] = yk) := Lib.hid (by rw [takeI_get _ _ _ _ _ (by rw [HSL.out]; exact hkn), if_neg (by omega)]; exact hyS.symm)
          have hlk : yk.length = 9 := by rw [← HYk.out]; exact HWk.out _ HLk.out
          have HNK : Hid (Nums yk) := Lib.hid (by rw [hyS]; exact HSN.out _ (by rw [HSL.out]; exact hlt))
          have HRk : Hid (R9 wr g0 (k * 9) yk) := Lib.hid (by rw [← HYk.out]; exact HO.out.r9R HWk.out HLk.out)
          obtain ⟨u, hu⟩ : ∃ u, u = yk.getD c 0 := ⟨_, rfl⟩
          have HUQ := Lib.hid hu
          have HYS := Lib.hid hyS
          have u0 : 0 ≤ u := by rw [hu]; exact (HNK.out c).1
          have u1 : u ≤ 112 := by rw [hu]; exact (HNK.out c).2
          have hst5 := new9 wr yk hlk
          have hsz5 : (rv yk).size = 9 := by rw [rv_size]; exact hlk
          have hb5 : Below wr.heap.size wr (wr.alloc (.cells (rv yk) 110)) := (Below.refl _ _).alloc (Nat.le_refl _) _
          have l0 : g0 < wr.heap.size := by have := LL.out.1; have := HK.out.size; omega
          have ls : gs < wr.heap.size := by have := LL.out.2.1; have := HK.out.size; omega
          have j0 : (0 : Int) ≤ (k : Int) := by omega
          have j1 : (k : Int) < (n : Int) := by omega
          have hq1 : (wr.alloc (.cells (rv yk) 110)).cell? ⟨gs, 0, none⟩ = some (.slice (some ⟨g0, 0, none⟩) n cr) := (hb5.cell (p := ⟨gs, 0, none⟩) ls).trans (block_cell HG.out rfl)
          have hq2 : (wr.alloc (.cells (rv yk) 110)).cell? ⟨wr.heap.size, c, none⟩ = some (.int .i64 u) := by
            have := (R9.new wr 110 hlk).2 c (.int .i64 u) (by rw [cI_get yk c (by omega), ← hu])
            rw [Nat.zero_add] at this; exact this
          have hq3 : R9 (wr.alloc (.cells (rv yk) 110)) wr.heap.size 0 yk := R9.new wr _ hlk
          have hq4 : R9 (wr.alloc (.cells (rv yk) 110)) g7 0 (oneOf S c kt) := HR.out.keep hb5 l7
          have HQ := Lib.hid (And.intro hq1 (And.intro hq2 (And.intro hq3 hq4)))
          clear hq1 hq2 hq3 hq4 hu hyS
          go_upto_region 6 with (first | ((with_reducible refine wl9 (x := .tmp 67) ?_ ?_ ?_ HRk.out ?_); exact rfl; exact rfl; exact rfl) | ((with_reducible refine wst9 (x := .tmp 9) (v := .tmp 68) ?_ ?_ ?_ ?_ hlk hst5 ?_); exact rfl; exact rfl; exact rfl; exact rfl))
          obtain ⟨SS, hSS⟩ : ∃ SS : World → Prop, SS = fun w' => w'.cell? ⟨gs, 0, none⟩ = some (.slice (some ⟨g0, 0, none⟩) n cr) ∧ w'.cell? ⟨wr.heap.size, c, none⟩ = some (.int .i64 u) ∧ R9 w' wr.heap.size 0 yk ∧ R9 w' g7 0 (oneOf S c kt) ∧ KeptS (fun q => q = g0) wr w' ∧ wr.heap.size < w'.heap.size := ⟨_, rfl⟩
          have hSK : ∀ W, SS W → KeptS (fun q => q = g0) wr W := fun W h => by rw [hSS] at h; exact h.2.2.2.2.1
          have hSZ : ∀ W, SS W → wr.heap.size < W.heap.size := fun W h => by rw [hSS] at h; exact h.2.2.2.2.2
          have hSB0 : ∀ W W', SS W → KeptS (fun q => q = g0) W W' → SS W' := fun W W' h hb => by
            have hz := hSZ W h
            rw [hSS] at h ⊢
            exact ⟨(hb.cell (p := ⟨gs, 0, none⟩) (by dsimp only; omega) LL.out.2.2.1).trans h.1, (hb.cell (p := ⟨wr.heap.size, c, none⟩) hz (by dsimp only; omega)).trans h.2.1, hb.r9 h.2.2.1 hz (by omega), hb.r9 h.2.2.2.1 (by omega) h7s.2, h.2.2.2.2.1.trans hb, Nat.lt_of_lt_of_le hz hb.size⟩
          have hSB : ∀ W W', SS W → Below W.heap.size W W' → SS W' := fun W W' h hb => hSB0 W W' h (KeptS.of_below hb)
          have hS9 : ∀ W W', SS W → Kept g0 (g0 + 1) W W' → SS W' := fun W W' h hk => hSB0 W W' h (KeptS.of_kept hk rfl)
          have hS0 : SS (wr.alloc (.cells (rv yk) 110)).drew := by rw [hSS]; exact ⟨HQ.out.1, HQ.out.2.1, HQ.out.2.2.1, HQ.out.2.2.2, (KeptS.of_below hb5).drew, by simp⟩
          have hq1 := HQ.out.1
          have hq2 := HQ.out.2.1
          refine wp_region_held_drew (S := SS) (by kernel_rfl) hS0 (fun hHeld => ?_)
          clear hq1 hq2 hst5 hsz5
          refine wpAnyH_take (i := 0) (oi := { dst := some 69, op := Op.move (Operand.tmp 0), type := 140, pos := "l3_systems.go:66", after := #[], guard := none }) (v := ?_) rfl (by kernel_rfl) (by kernel_rfl) (by kernel_rfl) (fun _ _ _ h => h) (Or.inl ⟨by rfl, ?_⟩) hHeld ?_
          rotate_left
          · intro w hSw; rw [hSS] at hSw; obtain ⟨hq1, hq2, hq3, hq4, hq5⟩ := hSw; clear hq3 hq4 hq5; (try dsimp only at hSw); go_simp; (try with_reducible rfl)
          try simp only [Act.put, List.setIfInBounds_toArray, List.set_cons_zero, List.set_cons_succ]
          refine wpAnyH_take (i := 1) (oi := { dst := some 70, op := Op.nilCheck (Operand.tmp 69), type := 0, pos := "l3_systems.go:66", after := #[{ on := 0, ground := Ground.data }], guard := none }) (v := ?_) rfl (by kernel_rfl) (by kernel_rfl) (by kernel_rfl) (fun _ _ _ h => h) (Or.inl ⟨by rfl, ?_⟩) hHeld ?_
          rotate_left
          · intro w hSw; rw [hSS] at hSw; obtain ⟨hq1, hq2, hq3, hq4, hq5⟩ := hSw; clear hq3 hq4 hq5; (try dsimp only at hSw); go_simp; (try with_reducible rfl)
          try simp only [Act.put, List.setIfInBounds_toArray, List.set_cons_zero, List.set_cons_succ]
          refine wpAnyH_take (i := 2) (oi := { dst := some 71, op := Op.fieldAddr 71 (Operand.tmp 70) 0, type := 0, pos := "l3_systems.go:66", after := #[{ on := 1, ground := Ground.data }], guard := none }) (v := ?_) rfl (by kernel_rfl) (by kernel_rfl) (by kernel_rfl) (fun _ _ _ h => h) (Or.inl ⟨by rfl, ?_⟩) hHeld ?_
          rotate_left
          · intro w hSw; rw [hSS] at hSw; obtain ⟨hq1, hq2, hq3, hq4, hq5⟩ := hSw; clear hq3 hq4 hq5; (try dsimp only at hSw); go_simp; (try with_reducible rfl)
          try simp only [Act.put, List.setIfInBounds_toArray, List.set_cons_zero, List.set_cons_succ]
          refine wpAnyH_take (i := 3) (oi := { dst := some 72, op := Op.load 69 (Operand.tmp 71), type := 69, pos := "l3_systems.go:66", after := #[{ on := 2, ground := Ground.data }], guard := none }) (v := ?_) rfl (by kernel_rfl) (by kernel_rfl) (by kernel_rfl) (fun _ _ _ h => h) (Or.inl ⟨by rfl, ?_⟩) hHeld ?_
          rotate_left
          · intro w hSw; rw [hSS] at hSw; obtain ⟨hq1, hq2, hq3, hq4, hq5⟩ := hSw; clear hq3 hq4 hq5; (try dsimp only at hSw); go_simp; (try with_reducible rfl)
          try simp only [Act.put, List.setIfInBounds_toArray, List.set_cons_zero, List.set_cons_succ]
          refine wpAnyH_take (i := 4) (oi := { dst := some 73, op := Op.move (Operand.tmp 8), type := 3, pos := "l3_systems.go:66", after := #[], guard := none }) (v := ?_) rfl (by kernel_rfl) (by kernel_rfl) (by kernel_rfl) (fun _ _ _ h => h) (Or.inl ⟨by rfl, ?_⟩) hHeld ?_
          rotate_left
          · intro w hSw; rw [hSS] at hSw; obtain ⟨hq1, hq2, hq3, hq4, hq5⟩ := hSw; clear hq3 hq4 hq5; (try dsimp only at hSw); go_simp; (try with_reducible rfl)
          try simp only [Act.put, List.setIfInBounds_toArray, List.set_cons_zero, List.set_cons_succ]
          refine wpAnyH_take (i := 5) (oi := { dst := some 74, op := Op.load 110 (Operand.tmp 9), type := 110, pos := "l3_systems.go:66", after := #[], guard := none }) rfl (by kernel_rfl) (by kernel_rfl) (by kernel_rfl) (fun _ _ _ h => h) (yield9 rfl (.tmp 9) rfl rfl (fun w hw => by rw [hSS] at hw; exact hw.2.2.1) hlk) hHeld ?_
          try simp only [Act.put, List.setIfInBounds_toArray, List.set_cons_zero, List.set_cons_succ]
          refine wpAnyH_take (i := 6) (oi := { dst := some 75, op := Op.load 110 (Operand.tmp 7), type := 110, pos := "l3_systems.go:66", after := #[], guard := none }) rfl (by kernel_rfl) (by kernel_rfl) (by kernel_rfl) (fun _ _ _ h => h) (yield9 rfl (.tmp 7) rfl rfl (fun w hw => by rw [hSS] at hw; exact hw.2.2.2.1) hl1) hHeld ?_
          try simp only [Act.put, List.setIfInBounds_toArray, List.set_cons_zero, List.set_cons_succ]
          refine wpAnyH_take (i := 7) (oi := { dst := some 76, op := Op.move (Operand.tmp 1), type := 3, pos := "l3_systems.go:66", after := #[], guard := none }) (v := ?_) rfl (by kernel_rfl) (by kernel_rfl) (by kernel_rfl) (fun _ _ _ h => h) (Or.inl ⟨by rfl, ?_⟩) hHeld ?_
          rotate_left
          · intro w hSw; rw [hSS] at hSw; obtain ⟨hq1, hq2, hq3, hq4, hq5⟩ := hSw; clear hq3 hq4 hq5; (try dsimp only at hSw); go_simp; (try with_reducible rfl)
          try simp only [Act.put, List.setIfInBounds_toArray, List.set_cons_zero, List.set_cons_succ]
          refine wpAnyH_take (i := 8) (oi := { dst := some 77, op := Op.indexAddr 110 (Operand.tmp 9) (Operand.tmp 76), type := 0, pos := "l3_systems.go:66", after := #[{ on := 7, ground := Ground.data }], guard := none }) (v := ?_) rfl (by kernel_rfl) (by kernel_rfl) (by kernel_rfl) (fun _ _ _ h => h) (Or.inl ⟨by rfl, ?_⟩) hHeld ?_
          rotate_left
          · intro w hSw; rw [hSS] at hSw; obtain ⟨hq1, hq2, hq3, hq4, hq5⟩ := hSw; clear hq3 hq4 hq5; (try dsimp only at hSw); go_simp; (try with_reducible rfl)
          try simp only [Act.put, List.setIfInBounds_toArray, List.set_cons_zero, List.set_cons_succ]
          refine wpAnyH_take (i := 9) (oi := { dst := some 78, op := Op.load 67 (Operand.tmp 77), type := 67, pos := "l3_systems.go:66", after := #[{ on := 8, ground := Ground.data }], guard := none }) (v := ?_) rfl (by kernel_rfl) (by kernel_rfl) (by kernel_rfl) (fun _ _ _ h => h) (Or.inl ⟨by rfl, ?_⟩) hHeld ?_
          rotate_left
          · intro w hSw; rw [hSS] at hSw; obtain ⟨hq1, hq2, hq3, hq4, hq5⟩ := hSw; clear hq3 hq4 hq5; (try dsimp only at hSw); go_simp; (try with_reducible rfl)
          try simp only [Act.put, List.setIfInBounds_toArray, List.set_cons_zero, List.set_cons_succ]
          refine wpAnyH_ready (rs := [10]) (by kernel_rfl) (by simp) ?_
          refine AllReadyH.cons (o := { dst := some 79, op := Op.call { callee := Callee.value (Operand.func 110), args := #[Operand.tmp 75, Operand.tmp 78], argTypes := #[110, 67] }, type := 110, pos := "l3_systems.go:66", after := #[{ on := 6, ground := Ground.data }, { on := 9, ground := Ground.data }], guard := none }) rfl (fun K hK => ?_) ?_
          · go_simp
            refine (i_row_times _ _ _ hl1 HN1.out u0 u1).mono ?_
            rintro e w7 ⟨rfl, hb7⟩
            have hS7 := hSB _ _ hHeld hb7
            have HBL7 : Hid (Below wr.heap.size wr w7) := Lib.hid ((below_drew hb5).trans (hb7.mono (by simp)))
            clear hHeld
            go_wp2_with fail
            refine hK.out _ _ hS7 (fun hHeld => ?_)
            clear hK K
            try simp only [Act.put, List.setIfInBounds_toArray, List.set_cons_zero, List.set_cons_succ]
            refine wpAnyH_ready (rs := [11]) (by kernel_rfl) (by simp) ?_
            refine AllReadyH.cons (o := { dst := some 80, op := Op.call { callee := Callee.value (Operand.func 112), args := #[Operand.tmp 74, Operand.tmp 79], argTypes := #[110, 110] }, type := 110, pos := "l3_systems.go:66", after := #[{ on := 5, ground := Ground.data }, { on := 10, ground := Ground.data }, { on := 10, ground := Ground.chain }], guard := none }) rfl (fun K hK => ?_) ?_
            · go_simp
              refine (i_row_minus _ _ _ hlk (by rw [rt_length]; exact hl1) HNK.out (nums_rt hl1 HN1.out)).mono ?_
              rintro e w8 ⟨rfl, hb8⟩
              have hS8 := hSB _ _ hHeld hb8
              have HBL8 : Hid (Below wr.heap.size wr w8) := Lib.hid (HBL7.out.trans (hb8.mono HBL7.out.size))
              clear hHeld
              go_wp2_with fail
              refine hK.out _ _ hS8 (fun hHeld => ?_)
              clear hK K
              try simp only [Act.put, List.setIfInBounds_toArray, List.set_cons_zero, List.set_cons_succ]
              refine wpAnyH_take (i := 12) (oi := { dst := some 81, op := Op.indexAddr 69 (Operand.tmp 72) (Operand.tmp 73), type := 0, pos := "l3_systems.go:66", after := #[{ on := 3, ground := Ground.data }, { on := 4, ground := Ground.data }, { on := 0, ground := Ground.phase }, { on := 1, ground := Ground.phase }, { on := 2, ground := Ground.phase }, { on := 3, ground := Ground.phase }, { on := 4, ground := Ground.phase }, { on := 5, ground := Ground.phase }, { on := 6, ground := Ground.phase }, { on := 7, ground := Ground.phase }, { on := 8, ground := Ground.phase }, { on := 9, ground := Ground.phase }, { on := 10, ground := Ground.phase }, { on := 11, ground := Ground.phase }], guard := none }) (v := ?_) rfl (by kernel_rfl) (by kernel_rfl) (by kernel_rfl) (fun _ _ _ h => h) (Or.inl ⟨by rfl, ?_⟩) hHeld ?_
              rotate_left
              · intro w hSw; rw [hSS] at hSw; obtain ⟨hq1, hq2, hq3, hq4, hq5⟩ := hSw; clear hq3 hq4 hq5; (try dsimp only at hSw); go_simp; (try with_reducible rfl)
              try simp only [Act.put, List.setIfInBounds_toArray, List.set_cons_zero, List.set_cons_succ]
              refine wpAnyH_ready (rs := [13]) (by kernel_rfl) (by simp) ?_
              refine AllReadyH.cons (o := { dst := none, op := Op.store 110 (Operand.tmp 81) (Operand.tmp 80), type := 0, pos := "l3_systems.go:66", after := #[{ on := 12, ground := Ground.data }, { on := 11, ground := Ground.data }, { on := 11, ground := Ground.chain }, { on := 0, ground := Ground.phase }, { on := 1, ground := Ground.phase }, { on := 2, ground := Ground.phase }, { on := 3, ground := Ground.phase }, { on := 4, ground := Ground.phase }, { on := 5, ground := Ground.phase }, { on := 6, ground := Ground.phase }, { on := 7, ground := Ground.phase }, { on := 8, ground := Ground.phase }, { on := 9, ground := Ground.phase }, { on := 10, ground := Ground.phase }, { on := 11, ground := Ground.phase }], guard := none }) rfl (fun K hK => ?_) ?_
              · have HO8 := HO.out.below HBL8.out l0
                obtain ⟨w9, hst9, ho9, hk9, hz9⟩ := HO8.stR (P := Try.prog) HWk.out (k := k) (x := rm yk (rt (oneOf S c kt) u)) HLk.out (by rw [rm_length]; exact hlk)
                refine step_store9 rfl (.tmp 81) (.tmp 80) rfl rfl rfl (by rw [rm_length]; exact hlk) hst9 ?_
                refine hK.out _ _ (hS9 _ _ hHeld hk9) (fun hHeld => ?_)
                clear hK K
                try simp only [Act.put]
                refine wpAnyH_done (by kernel_rfl) ?_ _
                have K9 : KeptS (fun q => q = g0) wr w9 := (KeptS.of_below HBL8.out).trans (KeptS.of_kept hk9 rfl)
                have HO9 : Hid (Ow w9 g0 (g0 + 1) 110 9 (some ⟨g0, 0, none⟩) n cr (cR (takeI S (oneOf S c kt) c (k + 1)))) := Lib.hid (by rw [takeI, ← HYS.out, ← HUQ.out]; exact ho9)
                have HG9 := Lib.hid (K9.heap HG.out LL.out.2.2.1)
                have HR9 := Lib.hid (K9.r9 HR.out l7 h7s.2)
                have HK9 : Hid (KeptS (fun k => k = g0 ∨ k = gs) w w9) := Lib.hid (HK.out.trans (K9.mono (fun _ h => .inl h)))
                have HS9 : Hid (g7 < w9.heap.size) := Lib.hid (Nat.lt_of_lt_of_le l7 K9.size)
                clear K9 hHeld
                go_wp2
                go_roundw
                case rel => exact ⟨k + 1, by omega, by go_num, HO9, HG9, HR9, HK9, HS9⟩
                case measure => simp [intOf] <;> omega
              exact AllReadyH.nil
            exact AllReadyH.nil
          exact AllReadyH.nil
        · obtain rfl : n = k := by omega
          have HLn : Hid (kt < (takeI S (oneOf S c kt) c n).length) := Lib.hid (by rw [takeI_length, HSL.out]; exact hk)
          have HWn : Hid (W9 (takeI S (oneOf S c kt) c n)) := Lib.hid (HSW.out.take n (by rw [HSL.out]; exact Nat.le_refl _))
          have HR7 : Hid (R9 wr.drew g7 0 (oneOf S c kt)) := Lib.hid HR.out
          have hsc : wr.cell? ⟨gs, 0, none⟩ = some (.slice (some ⟨g0, 0, none⟩) n cr) := block_cell HG.out rfl
          obtain ⟨w9, hst9, ho9, hk9, hz9⟩ := Ow.stR (w := wr.drew) HO.out (P := Try.prog) HWn.out (k := kt) (x := oneOf S c kt) HLn.out hl1
          have HO9 : Hid (Ow w9 g0 (g0 + 1) 110 9 (some ⟨g0, 0, none⟩) n cr (cR (takeP P c kt idx n))) := Lib.hid (by rw [HRES.out]; exact ho9)
          have K9a : KeptS (fun q => q = g0) wr w9 := (KeptS.refl _ _).drew.trans (KeptS.of_kept hk9 rfl)
          have HG9 : Hid (w9.heap[gs]? = some (.cells (sysC g0 n cr (.slice At kt ct) dv) 71 (0, 0))) := Lib.hid (K9a.heap HG.out LL.out.2.2.1)
          have HK9 : Hid (KeptS (fun k => k = g0 ∨ k = gs) w w9) := Lib.hid (HK.out.trans (K9a.mono (fun _ h => .inl h)))
          have HT9 : Hid (w9.ownsRow B 3 1 (.slice At kt ct) kt (cI T)) := Lib.hid (HK9.out.own HT'.out (fun g e h => by rcases h with rfl | rfl; exact LL.out.2.2.2.1 e; exact LL.out.2.2.2.2 e))
          have HL9 : Hid (g0 < w9.heap.size ∧ gs < w9.heap.size ∧ w.heap.size ≤ w9.heap.size) := Lib.hid (by
            have := HK9.out.size; exact ⟨Nat.lt_of_lt_of_le LL.out.1 this, Nat.lt_of_lt_of_le LL.out.2.1 this, this⟩)
          clear HO HG HR HK HS ho9 hk9 hz9 K9a HT' HNS HN1 HSN HSW HRES HLn HWn
          have HTa : Hid ((w9.alloc (Obj.cells #[Value.int .i64 (c : Int)] 3)).ownsRow B 3 1 (.slice At kt ct) kt (cI T)) := Lib.hid (HT9.out.alloc _)
          have HRa : Hid (Rd (w9.alloc (Obj.cells #[Value.int .i64 (c : Int)] 3)) (w9.heap.size + 1) 1 (some ⟨w9.heap.size, 0, none⟩) 1 (cI [(c : Int)])) := Lib.hid (by
            have := (Ow.new w9 #[Value.int .i64 (c : Int)] 3 1 1 rfl).rd; exact this)
          have hza : B ≤ (w9.alloc (Obj.cells #[Value.int .i64 (c : Int)] 3)).heap.size := by have := HL9.out.1; simp; omega
          have hsc91 : w9.cell? ⟨gs, 1, none⟩ = some (.slice At kt ct) := block_cell HG9.out rfl
          go_wp2
          go_still_tail 6, (by kernel_rfl)
          refine sl9 rfl (.tmp 7) rfl rfl HR7.out ?_
          repeat still_step
          refine wpStill_nil ?_
          change wpList _ _ _ _ _ wr.drew
          go_wp2_with (first
            | ((with_reducible refine wst9 (x := .tmp 89) (v := .tmp 88) ?_ ?_ ?_ ?_ hl1 hst9 ?_); exact rfl; exact rfl; exact rfl; exact rfl)
            | (at_builtin
               refine wpList_append_rd rfl (.tmp 94) (.tmp 96) _ rfl B 3 _ 1 8 Try.underlying27 info_int rfl (by decide) (.slice At kt ct) kt (cI T) rfl HTa.out _ _ 1 1 (cI [(c : Int)]) rfl HRa.out (cI_one _) (by unfold maxLen; omega) (by omega) hza ?_
               intro v1 w10 hown hgr hat
               obtain ⟨A1, c1, hv1, ho1⟩ := Ow.of_own hown
               subst hv1
               have HOWN := Lib.hid hown
               have HGR := Lib.hid hgr
               have HAT := Lib.hid hat
               have HG10 : Hid (w10.heap[gs]? = some (.cells (sysC g0 n cr (.slice At kt ct) dv) 71 (0, 0))) := Lib.hid (by
                 rw [hgr.block gs (by have := HL9.out.2.1; simp; omega) (fun e => LL.out.2.2.2.2 e.symm), Below.heap_alloc _ _ _ HL9.out.2.1]; exact HG9.out)
               have hc10 : w10.cell? ⟨gs, 1, none⟩ = some (.slice At kt ct) := block_cell HG10.out rfl
               have hf10 : w10.frozen? ⟨gs, 1, none⟩ = false := block_free HG10.out
               clear hown hgr hat ho1 hsc91))
          have K10 : KeptS (fun k => k = g0 ∨ k = gs ∨ Value.ownBlock (.slice At kt ct) = some k) w w10 := ((HK9.out.mono (fun k h => by rcases h with h | h; exact .inl h; exact .inr (.inl h))).trans (KeptS.of_below ((Below.refl _ _).alloc (Nat.le_refl _) _))).trans (KeptS.of_grown HGR.out (fun g e => .inr (.inr e)))
          have kset : Kept gs (gs + 1) w10 (w10.setCell ⟨gs, 1, none⟩ (.slice A1 (kt + 1) c1)) := (Kept.refl _ _ _).setCell (p := ⟨gs, 1, none⟩) (Nat.le_refl _) (Nat.lt_succ_self _) _
          have hne : gs ≠ g0 := LL.out.2.2.1
          have hT0 := LL.out.2.2.2.1
          have hl9 := HL9.out
          go_end0
          refine ⟨A1, c1, rfl, ?_, ?_, ?_, ?_, ?_⟩
          · exact heap_setCell_same w10 gs 1 _ _ _ HG10.out
          · refine (KeptS.of_kept (S := fun q => q = gs) kset rfl).ow ?_ (fun k h1 h2 e => by omega)
            refine (KeptS.of_grown (S := fun q => Value.ownBlock (.slice At kt ct) = some q) HGR.out (fun g e => e)).ow ?_ (fun k h1 h2 e => hT0 (by rw [show g0 = k by omega]; exact e))
            exact HO9.out.below ((Below.refl _ _).alloc (Nat.le_refl _) _) (by omega)
          · rw [cI_append]
            exact (KeptS.of_kept (S := fun q => q = gs) kset rfl).own HOWN.out (fun g e h => own_other HOWN.out HG10.out (by decide) (by rw [← h]; exact e))
          · exact K10.trans (KeptS.of_kept kset (.inr (.inl rfl)))
          · rcases HAT.out with h | h
            · exact .inl h
            · exact .inr ⟨_, by simp; omega, h⟩
end Go.Proofs.Ytbnobkojkfmccaa
