/- What stays when blocks of a set may have turned. No word of a program. -/
import Derived.Test.YtbnobkojkfmccaaRow9
import Derived.Test.YtbnobkojkfmccaaWalk3g
namespace Go.Proofs.Ytbnobkojkfmccaa
open Go.RowKit
set_option maxRecDepth 100000

/-- Of what was there nothing has changed but in the blocks of S. -/
structure KeptS (S : Nat → Prop) (w w' : World) : Prop where
  os : w'.os = w.os
  tape : w'.tape = w.tape
  output : w'.output = w.output
  size : w.heap.size ≤ w'.heap.size
  block : ∀ k, k < w.heap.size → ¬ S k → w'.heap[k]? = w.heap[k]?
section
variable {w w' w'' : World} {S S' : Nat → Prop} {B lo hi e size n c g k : Nat} {A : Option Addr} {xs : List Value} {v : Value} {o : Obj}
theorem KeptS.refl (S : Nat → Prop) (w : World) : KeptS S w w := ⟨rfl, rfl, rfl, Nat.le_refl _, fun _ _ _ => rfl⟩
theorem KeptS.trans (h : KeptS S w w') (k : KeptS S w' w'') : KeptS S w w'' :=
  ⟨k.os.trans h.os, k.tape.trans h.tape, k.output.trans h.output, Nat.le_trans h.size k.size, fun i hi hn => (k.block i (Nat.lt_of_lt_of_le hi h.size) hn).trans (h.block i hi hn)⟩
theorem KeptS.mono (h : KeptS S w w') (hs : ∀ k, S k → S' k) : KeptS S' w w' := ⟨h.os, h.tape, h.output, h.size, fun k hk hn => h.block k hk (fun q => hn (hs k q))⟩
theorem KeptS.of_below (h : Below w.heap.size w w') : KeptS S w w' := ⟨h.os, h.tape, h.output, h.size, fun k hk _ => h.block k hk⟩
theorem KeptS.of_kept (h : Kept g (g + 1) w w') (hg : S g) : KeptS S w w' := ⟨h.os, h.tape, h.output, h.size, fun k hk hn => h.block k hk (fun q => hn (by rw [show k = g by omega]; exact hg))⟩
theorem KeptS.of_grown {row : Option Nat} (h : w.grownBy w' row) (hr : ∀ g, row = some g → S g) : KeptS S w w' :=
  ⟨h.os, h.tape, h.output, h.size, fun k hk hn => h.block k hk (fun q => hn (hr k q.symm))⟩
theorem KeptS.to_below (h : KeptS S w w') (hB : B ≤ w.heap.size) (hs : ∀ k, S k → B ≤ k) : Below B w w' := ⟨h.os, h.tape, h.output, h.size, fun k hk => h.block k (by omega) (fun q => by have := hs k q; omega)⟩
theorem KeptS.drew (h : KeptS S w w') : KeptS S w w'.drew := ⟨h.os, h.tape, h.output, h.size, h.block⟩
theorem KeptS.heap (h : KeptS S w w') (hb : w.heap[k]? = some o) (hk : ¬ S k) : w'.heap[k]? = some o := by
  rw [h.block k (Array.getElem?_eq_some_iff.1 hb).1 hk]; exact hb
theorem KeptS.ow (h : KeptS S w w') (r : Ow w lo hi e size A n c xs) (hs : ∀ k, lo ≤ k → k < hi → ¬ S k) : Ow w' lo hi e size A n c xs := by
  refine ⟨r.1, r.2.1, ?_⟩
  rcases r.2.2 with h0 | ⟨g, cs, rfl, a, b, hg, q⟩
  · exact .inl h0
  · exact .inr ⟨g, cs, rfl, a, b, h.heap hg (hs g a b), q⟩
theorem KeptS.own (h : KeptS S w w') (r : w.ownsRow B e size v n xs) (hs : ∀ g, v.ownBlock = some g → ¬ S g) : w'.ownsRow B e size v n xs := by
  refine ⟨r.1, ?_⟩
  rcases r.2 with h0 | ⟨g, cap, cur, rfl, hl, hh, q⟩
  · exact .inl h0
  · exact .inr ⟨g, cap, cur, rfl, hl, h.heap hh (hs g rfl), q⟩
theorem KeptS.cell (h : KeptS S w w') {p : Addr} (hp : p.block < w.heap.size) (hs : ¬ S p.block) : w'.cell? p = w.cell? p := World.cell?_of_block (w := w) (h.block p.block hp hs)
theorem KeptS.r9 {y : List Int} {oo : Nat} (h : KeptS S w w') (r : R9 w g oo y) (hg : g < w.heap.size) (hs : ¬ S g) : R9 w' g oo y :=
  ⟨r.1, fun j u hu => (h.cell (p := ⟨g, oo + j, none⟩) hg hs).trans (r.2 j u hu)⟩
/-- a block of one type is not the own block of a row of another -/
theorem own_other {ca : Array Value} {t : Nat} {fr : Nat × Nat} (h : w.ownsRow B e size v n xs) (hg : w.heap[g]? = some (.cells ca t fr)) (he : e ≠ t) : v.ownBlock ≠ some g := by
  intro e1
  rcases h.2 with ⟨rfl, _⟩ | ⟨g', cap, cur, rfl, _, hh, _⟩
  · simp [Value.ownBlock] at e1
  · simp [Value.ownBlock] at e1
    subst e1
    rw [hg] at hh; injection hh with hh; injection hh with _ ht
    exact he ht.symm
theorem own_size (h : w.ownsRow B e size v n xs) (hg : v.ownBlock = some g) : g < w.heap.size := by
  rcases h.2 with ⟨rfl, _⟩ | ⟨g', cap, cur, rfl, _, hh, _⟩
  · simp [Value.ownBlock] at hg
  · simp [Value.ownBlock] at hg
    subst hg
    exact (Array.getElem?_eq_some_iff.1 hh).1
theorem block_cell {cs : Array Value} {t : Nat} {u : Value} {j : Nat} (hb : w.heap[g]? = some (.cells cs t (0, 0))) (hu : cs[j]? = some u) : w.cell? ⟨g, j, none⟩ = some u := by
  rw [cell_of_row w g j cs t (0, 0) hb]; exact hu
theorem block_free {cs : Array Value} {t j : Nat} (hb : w.heap[g]? = some (.cells cs t (0, 0))) : w.frozen? ⟨g, j, none⟩ = false := frozen_of_row w g j cs t hb
theorem block_lt (hb : w.heap[g]? = some o) : g < w.heap.size := (Array.getElem?_eq_some_iff.1 hb).1
theorem Ow.blockOf {cc : Nat} (h : Ow w g (g + 1) e size (some ⟨g, 0, none⟩) n cc xs) (hn : 0 < n) : ∃ cs, w.heap[g]? = some (.cells cs e (0, 0)) := by
  obtain ⟨g', cs, hA, _, _, hb, _⟩ := h.lt hn
  injection hA with hA; injection hA with hA; subst hA
  exact ⟨cs, hb⟩
theorem getD_of_lt' {ps : List (List Int)} {k : Nat} {z : List Int} : ∀ {x : List Int}, k < ps.length → (ps.set k x).getD k z = x := fun {x} h => by rw [getD_set1 _ _ _ _ _ h, if_pos rfl]
end
end Go.Proofs.Ytbnobkojkfmccaa
