/- Memory: a slice that reads as a list of cells; a slice that the call itself made; what stays. No word of a program. -/
import Derived.WalkKit
import Derived.WalkSpells
import Derived.WalkLawsBesides
import Derived.Lib.Hide
import Derived.Below
import Derived.Laws.OwnMore
import Derived.Deep.Draws
namespace Go.Proofs.Ytdhakbpimbadgaa
open Go.RowKit

/-- ints as cells -/
def cI (xs : List Int) : List Value := xs.map (Value.int .i64)
theorem cI_length (xs : List Int) : (cI xs).length = xs.length := by simp [cI]
theorem cI_get (xs : List Int) (j : Nat) (h : j < xs.length) : (cI xs)[j]? = some (.int .i64 (xs.getD j 0)) := by
  simp [cI, h]

theorem add_block (a : Addr) (j : Nat) : (a.add j).block = a.block := by unfold Addr.add; split <;> rfl
theorem add_zero_head (g j : Nat) : (⟨g, 0, none⟩ : Addr).add j = ⟨g, j, none⟩ := by unfold Addr.add; split <;> simp_all

/-- The n elements at A, size cells each, hold the cells xs, and lie below block hi. -/
def Rd (w : World) (hi size : Nat) (A : Option Addr) (n : Nat) (xs : List Value) : Prop :=
  xs.length = n * size ∧ (0 < n → ∃ a : Addr, A = some a ∧ a.block < hi ∧ ∀ j u, xs[j]? = some u → w.cell? (a.add j) = some u)

/-- The slice (A, n, c) begins a block of its own between lo and hi, of element type e, and holds the cells xs; or it holds nothing. -/
def Ow (w : World) (lo hi e size : Nat) (A : Option Addr) (n c : Nat) (xs : List Value) : Prop :=
  xs.length = n * size ∧ n ≤ c ∧ (n = 0 ∨ ∃ g cs, A = some ⟨g, 0, none⟩ ∧ lo ≤ g ∧ g < hi ∧ w.heap[g]? = some (.cells cs e (0, 0)) ∧ cs.toList.take (n * size) = xs)

/-- Of what lay below hi nothing has changed but in the blocks from lo to mid. -/
structure Kept (lo mid : Nat) (w w' : World) : Prop where
  os : w'.os = w.os
  tape : w'.tape = w.tape
  output : w'.output = w.output
  size : w.heap.size ≤ w'.heap.size
  block : ∀ k, k < w.heap.size → ¬ (lo ≤ k ∧ k < mid) → w'.heap[k]? = w.heap[k]?

section
variable {w w' : World} {lo hi lo' hi' e size n c : Nat} {A : Option Addr} {xs : List Value}

theorem Rd.at_ (h : Rd w hi size A n xs) (hn : 0 < n) : ∃ a : Addr, A = some a ∧ a.block < hi ∧ ∀ j, j < n * size → w.cell? (a.add j) = some (xs.getD j undef) := by
  obtain ⟨a, e, hb, hc⟩ := h.2 hn
  refine ⟨a, e, hb, fun j hj => hc j _ ?_⟩
  have hl := h.1
  simp [List.getElem?_eq_getElem (show j < xs.length by omega)]
theorem Rd.int {zs : List Int} (h : Rd w hi 1 A n (cI zs)) (hn : 0 < n) : ∃ a : Addr, A = some a ∧ a.block < hi ∧ ∀ j, j < n → w.cell? (a.add j) = some (.int .i64 (zs.getD j 0)) := by
  obtain ⟨a, e, hb, hc⟩ := h.2 hn
  refine ⟨a, e, hb, fun j hj => hc j _ (cI_get zs j ?_)⟩
  have := h.1; rw [cI_length] at this; omega
/-- one element, under a name of its own -/
theorem Rd.intAt {zs : List Int} (h : Rd w hi 1 A n (cI zs)) {k : Nat} (hk : k < n) : ∃ (a : Addr) (z : Int), A = some a ∧ a.block < hi ∧ w.cell? (a.add k) = some (.int .i64 z) ∧ Hid (z = zs.getD k 0) := by
  obtain ⟨a, e, hb, hc⟩ := h.int (by omega)
  exact ⟨a, _, e, hb, hc k hk, Lib.hid rfl⟩
theorem Rd.len {zs : List Int} (h : Rd w hi 1 A n (cI zs)) : zs.length = n := by have := h.1; rw [cI_length] at this; omega
theorem Rd.keep (h : Rd w hi size A n xs) (hk : ∀ p : Addr, p.block < hi → w'.cell? p = w.cell? p) : Rd w' hi size A n xs :=
  ⟨h.1, fun hn => by
    obtain ⟨a, e, hb, hc⟩ := h.2 hn
    exact ⟨a, e, hb, fun j u hu => (hk _ (by rw [add_block]; exact hb)).trans (hc j u hu)⟩⟩
theorem Rd.more (h : Rd w hi size A n xs) (hh : hi ≤ hi') : Rd w hi' size A n xs :=
  ⟨h.1, fun hn => by
    obtain ⟨a, e, hb, hc⟩ := h.2 hn
    exact ⟨a, e, by omega, hc⟩⟩
theorem Rd.below (h : Rd w hi size A n xs) (hb : Below hi w w') : Rd w' hi size A n xs := h.keep fun _ hp => hb.cell hp
theorem Rd.drewN (h : Rd w hi size A n xs) (k : Nat) : Rd (w.drewN k) hi size A n xs := h
theorem Rd.drew (h : Rd w hi size A n xs) : Rd w.drew hi size A n xs := h

theorem Ow.lt (h : Ow w lo hi e size A n c xs) (hn : 0 < n) : ∃ g cs, A = some ⟨g, 0, none⟩ ∧ lo ≤ g ∧ g < hi ∧ w.heap[g]? = some (.cells cs e (0, 0)) ∧ cs.toList.take (n * size) = xs := by
  rcases h.2.2 with h0 | h1
  · omega
  · exact h1
theorem Ow.rd (h : Ow w lo hi e size A n c xs) : Rd w hi size A n xs := by
  refine ⟨h.1, fun hn => ?_⟩
  obtain ⟨g, cs, rfl, hl, hh, hb, ht⟩ := h.lt hn
  refine ⟨_, rfl, hh, fun j u hu => ?_⟩
  rw [add_zero_head, cell_of_row w g j cs e (0, 0) hb]
  rw [← ht, List.getElem?_take] at hu
  split at hu
  · simpa using hu
  · cases hu
theorem Ow.widen (h : Ow w lo hi e size A n c xs) (h1 : lo' ≤ lo) (h2 : hi ≤ hi') : Ow w lo' hi' e size A n c xs := by
  refine ⟨h.1, h.2.1, ?_⟩
  rcases h.2.2 with h0 | ⟨g, cs, rfl, a, b, r⟩
  · exact .inl h0
  · exact .inr ⟨g, cs, rfl, by omega, by omega, r⟩
theorem Ow.kept {mid : Nat} (h : Ow w lo hi e size A n c xs) (hk : Kept lo' mid w w') (hz : hi ≤ w.heap.size) (hd : mid ≤ lo ∨ hi ≤ lo') : Ow w' lo hi e size A n c xs := by
  refine ⟨h.1, h.2.1, ?_⟩
  rcases h.2.2 with h0 | ⟨g, cs, rfl, a, b, hb, r⟩
  · exact .inl h0
  · exact .inr ⟨g, cs, rfl, a, b, by rw [hk.block g (by omega) (by omega)]; exact hb, r⟩
theorem Ow.below {B : Nat} (h : Ow w lo hi e size A n c xs) (hk : Below B w w') (hz : hi ≤ B) : Ow w' lo hi e size A n c xs := by
  refine ⟨h.1, h.2.1, ?_⟩
  rcases h.2.2 with h0 | ⟨g, cs, rfl, a, b, hb, r⟩
  · exact .inl h0
  · exact .inr ⟨g, cs, rfl, a, b, by rw [hk.block g (by omega)]; exact hb, r⟩
theorem Ow.drewN (h : Ow w lo hi e size A n c xs) (k : Nat) : Ow (w.drewN k) lo hi e size A n c xs := h
theorem Ow.of_own {v : Value} (h : w.ownsRow lo e size v n xs) : ∃ A c, v = .slice A n c ∧ Ow w lo w.heap.size e size A n c xs := by
  rcases h.2 with ⟨rfl, h0⟩ | ⟨g, cap, cur, rfl, hg, hh, hnc, _, hs, ht⟩
  · subst h0; exact ⟨_, _, rfl, h.1, Nat.le_refl _, .inl rfl⟩
  · exact ⟨_, _, rfl, h.1, hnc, .inr ⟨g, cur, rfl, hg, (Array.getElem?_eq_some_iff.1 hh).1, hh, ht⟩⟩
/-- A block just made. -/
theorem Ow.new (w : World) (cs : Array Value) (e size n : Nat) (hs : cs.size = n * size) : Ow (w.alloc (.cells cs e)) w.heap.size (w.heap.size + 1) e size (some ⟨w.heap.size, 0, none⟩) n n cs.toList :=
  ⟨by simpa using hs, Nat.le_refl _, .inr ⟨_, cs, rfl, Nat.le_refl _, by omega, heap_alloc_new w _, by rw [List.take_of_length_le (by simp; omega)]⟩⟩

theorem Ow.cellAt {a : Option Nat} {g j : Nat} {u : Value} (h : Ow w lo hi e size (some ⟨g, 0, a⟩) n c xs) (hj : xs[j]? = some u) : w.cell? ⟨g, j, none⟩ = some u := by
  have hn : 0 < n := by
    rcases Nat.eq_zero_or_pos n with h0 | h0
    · have := h.1; subst h0; rw [Nat.zero_mul] at this
      rw [List.eq_nil_of_length_eq_zero this] at hj; simp at hj
    · exact h0
  obtain ⟨g', cs, hA, _, _, hb, ht⟩ := h.lt hn
  injection hA with hA; injection hA with hA; subst hA
  rw [cell_of_row w g j cs e (0, 0) hb]
  rw [← ht, List.getElem?_take] at hj
  split at hj
  · simpa using hj
  · cases hj
theorem Ow.intAt {a : Option Nat} {g k : Nat} {zs : List Int} (h : Ow w lo hi e 1 (some ⟨g, 0, a⟩) n c (cI zs)) (hk : k < n) : ∃ z : Int, w.cell? ⟨g, k, none⟩ = some (.int .i64 z) ∧ Hid (z = zs.getD k 0) :=
  ⟨_, h.cellAt (cI_get zs k (by have := h.1; rw [cI_length] at this; omega)), Lib.hid rfl⟩
theorem Ow.len {zs : List Int} (h : Ow w lo hi e 1 A n c (cI zs)) : zs.length = n := by have := h.1; rw [cI_length] at this; omega
theorem Ow.free {a : Option Nat} {g : Nat} (h : Ow w lo hi e size (some ⟨g, 0, a⟩) n c xs) (hn : 0 < n) (j : Nat) : w.frozen? ⟨g, j, none⟩ = false := by
  obtain ⟨g', cs, hA, _, _, hb, _⟩ := h.lt hn
  injection hA with hA; injection hA with hA; subst hA
  exact frozen_of_row w g j cs e hb
theorem Ow.set {a : Option Nat} {g : Nat} (h : Ow w lo hi e size (some ⟨g, 0, a⟩) n c xs) (j : Nat) (u : Value) : Ow (w.setCell ⟨g, j, none⟩ u) lo hi e size (some ⟨g, 0, a⟩) n c (xs.set j u) := by
  refine ⟨by simpa using h.1, h.2.1, ?_⟩
  rcases h.2.2 with h0 | ⟨g', cs, hA, hl, hh, hb, ht⟩
  · exact .inl h0
  · have hA' := hA
    injection hA with hA; injection hA with hA; subst hA
    refine .inr ⟨g, cs.setIfInBounds j u, hA', hl, hh, heap_setCell_same w g j cs e u hb, ?_⟩
    rw [Array.toList_setIfInBounds, ← ht, List.take_set]
theorem cI_set (zs : List Int) (j : Nat) (v : Int) : (cI zs).set j (.int .i64 v) = cI (zs.set j v) := by simp [cI, List.map_set]

/-- make([]T, n) of one-cell elements -/
theorem run_make1 {P : Program} {t e : TypeId} {z : Value} {bytes : Nat} (ht : P.underlying t = some (.slice e)) (hi : (P.info? e).map (fun i => (i.zero, i.size, i.bytes)) = some (some z, 1, bytes)) (hz : z.cells = #[z])
    (n : Nat) (hb : bytes * n ≤ 281474976710656) (hn : n ≤ 9223372036854775807) (w : World) :
    (Instr.makeSlice t (.int .i64 (n : Int)) (.int .i64 (n : Int))).run P w = .ok (.slice (some ⟨w.heap.size, 0, none⟩) n n) (w.alloc (.cells (Array.replicate n z) e)) := by
  obtain ⟨i, hi, hz0, hz1, hz2⟩ := info_parts hi
  have hb' : (i.bytes : Int) * (n : Int) ≤ 281474976710656 := by
    have h : ((i.bytes * n : Nat) : Int) ≤ 281474976710656 := by rw [hz2]; omega
    rwa [Int.natCast_mul] at h
  have hr := run_make (P := P) w t e i z ht hi hz0 .i64 .i64 n n (by omega) (Int.le_refl _) hb' (by omega)
  simp only [Int.toNat_natCast, hz1, hz, Nat.mul_one] at hr
  rw [hr]
  have : madeCells #[z] n = Array.replicate n z := by
    apply Array.toList_inj.1; rw [toList_madeCells_one]; simp
  rw [this]
theorem Ow.zeros (w : World) (z : Value) (e n : Nat) : Ow (w.alloc (.cells (Array.replicate n z) e)) w.heap.size (w.heap.size + 1) e 1 (some ⟨w.heap.size, 0, none⟩) n n (List.replicate n z) := by
  have := Ow.new w (Array.replicate n z) e 1 n (by simp)
  simpa using this
theorem cI_zeros (n : Nat) : List.replicate n (Value.int .i64 0) = cI (List.replicate n 0) := by simp [cI]

theorem Kept.refl (lo hi : Nat) (w : World) : Kept lo hi w w := ⟨rfl, rfl, rfl, Nat.le_refl _, fun _ _ _ => rfl⟩
theorem Kept.trans {w'' : World} (h : Kept lo hi w w') (k : Kept lo hi w' w'') : Kept lo hi w w'' :=
  ⟨k.os.trans h.os, k.tape.trans h.tape, k.output.trans h.output, Nat.le_trans h.size k.size, fun i hi hn => (k.block i (Nat.lt_of_lt_of_le hi h.size) hn).trans (h.block i hi hn)⟩
theorem Kept.to_below (h : Kept lo hi w w') (hl : lo ≤ w.heap.size) : Below lo w w' := ⟨h.os, h.tape, h.output, h.size, fun k hk => h.block k (by omega) (by omega)⟩
theorem Kept.drewN (h : Kept lo hi w w') (k : Nat) : Kept lo hi w (w'.drewN k) := ⟨h.os, h.tape, h.output, h.size, h.block⟩
theorem Kept.drew (h : Kept lo hi w w') : Kept lo hi w w'.drew := ⟨h.os, h.tape, h.output, h.size, h.block⟩
theorem Kept.setCell (h : Kept lo hi w w') {p : Addr} (h1 : lo ≤ p.block) (h2 : p.block < hi) (u : Value) : Kept lo hi w (w'.setCell p u) :=
  h.trans ⟨rfl, rfl, rfl, by simp [World.setCell], fun k _ hn => Below.heap_setCell _ _ _ _ (by omega)⟩
/-- Nothing has changed but that orders were drawn. -/
def Still (w w' : World) : Prop := ∃ d, w' = w.drewN d
theorem Still.refl (w : World) : Still w w := ⟨0, rfl⟩
theorem Still.drewN (h : Still w w') (k : Nat) : Still w (w'.drewN k) := by
  obtain ⟨d, rfl⟩ := h
  exact ⟨d + k, World.drewN_drewN _ _ _⟩
theorem Still.trans {w'' : World} (h : Still w w') (k : Still w' w'') : Still w w'' := by
  obtain ⟨d, rfl⟩ := k
  exact h.drewN d
theorem Still.cell (h : Still w w') (a : Addr) : w'.cell? a = w.cell? a := by obtain ⟨d, rfl⟩ := h; rfl
theorem Still.heap (h : Still w w') : w'.heap = w.heap := by obtain ⟨d, rfl⟩ := h; rfl
theorem Still.sz (h : Still w w') : w'.heap.size = w.heap.size := by rw [h.heap]
theorem Still.below (h : Still w w') (B : Nat) : Below B w w' := by obtain ⟨d, rfl⟩ := h; exact ⟨rfl, rfl, rfl, Nat.le_refl _, fun _ _ => rfl⟩
theorem Still.kept (h : Still w w') (lo hi : Nat) : Kept lo hi w w' := by obtain ⟨d, rfl⟩ := h; exact (Kept.refl _ _ _).drewN d
theorem Still.rd (h : Still w w') (r : Rd w hi size A n xs) : Rd w' hi size A n xs := r.below (h.below _)
theorem Still.ow (h : Still w w') (r : Ow w lo hi e size A n c xs) : Ow w' lo hi e size A n c xs := r.below (h.below hi) (Nat.le_refl _)
theorem below_drewN {B : Nat} (h : Below B w w') (k : Nat) : Below B w (w'.drewN k) := ⟨h.os, h.tape, h.output, h.size, h.block⟩
end
end Go.Proofs.Ytdhakbpimbadgaa
