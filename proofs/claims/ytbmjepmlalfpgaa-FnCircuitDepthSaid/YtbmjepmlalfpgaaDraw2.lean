/- What the plain laws draw from bytes: a number, seldom none. -/
import Derived.Test.YtbmjepmlalfpgaaDraw1
namespace Go.Proofs.Ytbmjepmlalfpgaa
open Go.RowKit
set_option maxRecDepth 100000

theorem Rdr.lt {w : World} {g hi p : Nat} {A : Option Addr} {n c : Nat} {bs : List Int} (h : Rdr w g hi p A n c bs) : g < w.heap.size := (Array.getElem?_eq_some_iff.1 h.blk).1
theorem Rdr.alloc {w : World} {g hi p : Nat} {A : Option Addr} {n c : Nat} {bs : List Int} (h : Rdr w g hi p A n c bs) (o : Obj) : Rdr (w.alloc o) g hi p A n c bs where
  blk := (Below.heap_alloc w o g h.lt).trans h.blk
  rd := h.rd.below ((Below.refl hi w).alloc (by have := h.low; have := h.lt; omega) o)
  low := h.low
  len := h.len
  few := h.few
  byt := h.byt
/-- what a literal of four numbers holds, after what has kept it -/
theorem lit4 {w w2 : World} {g : Nat} {t0 : Nat} (xs : Array Value) (hk : Kept g (g + 1) (w.alloc (.cells xs t0)) w2) (hg : g < w.heap.size) (j : Nat) (u : Value) (hj : xs[j]? = some u) : w2.cell? ⟨w.heap.size, j, none⟩ = some u := by
  have hb : w2.heap[w.heap.size]? = some (.cells xs t0 (0, 0)) := (hk.block _ (by simp) (by omega)).trans (heap_alloc_new _ _)
  rw [cell_of_row w2 w.heap.size j _ _ _ hb]; exact hj

theorem kept_alloc (lo mid : Nat) (w : World) (o : Obj) : Kept lo mid w (w.alloc o) := ⟨rfl, rfl, rfl, by simp, fun k hk _ => Below.heap_alloc w o k hk⟩
theorem four {j : Nat} (h : (j : Int) < 4) : j = 0 ∨ j = 1 ∨ j = 2 ∨ j = 3 := by omega

end Go.Proofs.Ytbmjepmlalfpgaa
