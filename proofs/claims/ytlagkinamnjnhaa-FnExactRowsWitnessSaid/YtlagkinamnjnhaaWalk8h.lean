/- Chapter 8 in the model: outputs. -/
import Derived.Test.YtlagkinamnjnhaaWalk8g
import Derived.Test.YtlagkinamnjnhaaWalk3b
namespace Go.Proofs.Ytlagkinamnjnhaa
open Go.RowKit
set_option maxRecDepth 100000

theorem if_max (a b : Int) : (if a < b then b else a) = max a b := by split <;> omega
theorem if_min (a b : Int) : (if b < a then b else a) = min a b := by split <;> omega
/-- a box of three cells over a call that only makes -/
theorem upd3 {w0 W w' : World} {b e : Nat} {x y z : Value} (hb : Below b w0 W) (hx : Bx W b #[x, y, z] e) (h : Below W.heap.size W w') :
    Below b w0 w' ∧ Bx w' b #[x, y, z] e ∧ w'.cell? ⟨b, 0, none⟩ = some x ∧ w'.cell? ⟨b, 1, none⟩ = some y ∧ w'.cell? ⟨b, 2, none⟩ = some z :=
  have hx2 := hx.below h hx.lt
  ⟨hb.trans (h.mono (Nat.le_of_lt hx.lt)), hx2, hx2.cell 0, hx2.cell 1, hx2.cell 2⟩
theorem Bx.grown {W w' : World} {b e : Nat} {cs : Array Value} {v : Value} (h : Bx W b cs e) (hg : W.grownBy w' v.ownBlock) (hne : v.ownBlock ≠ some b) : Bx w' b cs e := (hg.block b h.lt (fun h' => hne h'.symm)).trans h
theorem own_ne {w : World} {B e size n b : Nat} {v : Value} {xs : List Value} (h : w.ownsRow B e size v n xs) (hb : b < B) : v.ownBlock ≠ some b := fun e => by have := own_block h b e; omega

end Go.Proofs.Ytlagkinamnjnhaa
