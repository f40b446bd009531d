/- A block that the call itself made and that holds known cells: a boxed struct, a variable. -/
import Derived.Test.YtdhakbpimbadgaaBase
namespace Go.Proofs.Ytdhakbpimbadgaa
open Go.RowKit
set_option maxRecDepth 100000

/-- block b holds the cells cs of element type e -/
def Bx (w : World) (b : Nat) (cs : Array Value) (e : TypeId) : Prop := w.heap[b]? = some (.cells cs e (0, 0))
section
variable {w w' : World} {b e : Nat} {cs : Array Value}
theorem Bx.new (w : World) (cs : Array Value) (e : TypeId) : Bx (w.alloc (.cells cs e)) w.heap.size cs e := heap_alloc_new w _
theorem Bx.lt (h : Bx w b cs e) : b < w.heap.size := (Array.getElem?_eq_some_iff.1 h).1
theorem Bx.alloc (h : Bx w b cs e) (o : Obj) : Bx (w.alloc o) b cs e := (Below.heap_alloc w o b h.lt).trans h
theorem Bx.below {B : Nat} (h : Bx w b cs e) (hb : Below B w w') (hl : b < B) : Bx w' b cs e := (hb.block b hl).trans h
theorem Bx.kept {lo hi : Nat} (h : Bx w b cs e) (hk : Kept lo hi w w') (hl : b < lo ∨ hi ≤ b) : Bx w' b cs e := (hk.block b h.lt (by omega)).trans h
theorem Bx.cell (h : Bx w b cs e) (j : Nat) : w.cell? ⟨b, j, none⟩ = cs[j]? := cell_of_row w b j cs e (0, 0) h
theorem Bx.free (h : Bx w b cs e) (j : Nat) : w.frozen? ⟨b, j, none⟩ = false := frozen_of_row w b j cs e h
theorem Bx.set (h : Bx w b cs e) (j : Nat) (u : Value) : Bx (w.setCell ⟨b, j, none⟩ u) b (cs.setIfInBounds j u) e := heap_setCell_same w b j cs e u h
theorem Bx.other (h : Bx w b cs e) (p : Addr) (u : Value) (hp : p.block ≠ b) : Bx (w.setCell p u) b cs e := (Below.heap_setCell w p u b (fun h' => hp h'.symm)).trans h
theorem Bx.still (h : Bx w b cs e) (hs : Still w w') : Bx w' b cs e := by obtain ⟨d, rfl⟩ := hs; exact h
end
end Go.Proofs.Ytdhakbpimbadgaa
