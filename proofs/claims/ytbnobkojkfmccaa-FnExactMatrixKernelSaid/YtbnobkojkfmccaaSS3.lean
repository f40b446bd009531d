/- Lists of lists of ints: one cell stored, two rows exchanged. -/
import Derived.Test.YtbnobkojkfmccaaSS
namespace Go.Proofs.Ytbnobkojkfmccaa
open Go.RowKit

section
variable {w w' : World} {lo hi n c k j g L ci : Nat} {A : Option Addr} {vs : List Value} {d : List (List Int)}
theorem getD_set1 {α : Type} (l : List α) (k i : Nat) (x z : α) (h : k < l.length) : (l.set k x).getD i z = if k = i then x else l.getD i z := by
  simp only [List.getD_eq_getElem?_getD, List.getElem?_set]
  by_cases hc : k = i
  · subst hc; rw [if_pos rfl, if_pos rfl, if_pos h]; rfl
  · rw [if_neg hc, if_neg hc]
/-- one cell of one row -/
theorem OwR.at2 (h : OwR w lo hi A n c vs d) (hk : k < n) (hL : (d.getD k []).length = L) (hj : 0 < L) : ∃ (g gi ci : Nat), A = some ⟨g, 0, none⟩ ∧ lo ≤ g ∧ g < hi ∧ lo ≤ gi ∧ gi < hi ∧ w.cell? ⟨g, k, none⟩ = some (.slice (some ⟨gi, 0, none⟩) L ci) ∧ vs.getD k undef = .slice (some ⟨gi, 0, none⟩) L ci ∧ Ow w lo hi 3 1 (some ⟨gi, 0, none⟩) L ci (cI (d.getD k [])) := by
  obtain ⟨g, Ai, ni, ci, hA, h1, h2, hc, hv, ho, hn, _⟩ := h.row hk
  obtain rfl : ni = L := by omega
  obtain ⟨_, A2, n2, c2, e, r⟩ := ho
  injection e with e1 e2 e3; subst e1; subst e2; subst e3
  obtain ⟨gi, cs, rfl, h3, h4, _⟩ := r.lt hj
  exact ⟨g, gi, ci, hA, h1, h2, h3, h4, hc, hv, r⟩
theorem OwR.put (h : OwR w lo hi A n c vs d) (hz : hi ≤ w.heap.size) (hk : k < n) (hv : vs.getD k undef = .slice (some ⟨g, 0, none⟩) L ci) (hL : (d.getD k []).length = L) (hj : j < L) (v : Int) :
    OwR (w.setCell ⟨g, j, none⟩ (.int .i64 v)) lo hi A n c vs (d.set k ((d.getD k []).set j v)) := by
  have hkp : Kept g (g + 1) w (w.setCell ⟨g, j, none⟩ (.int .i64 v)) := (Kept.refl _ _ _).setCell (p := ⟨g, j, none⟩) (Nat.le_refl _) (Nat.lt_succ_self _) _
  refine h.turn (g := g) hk hkp hz (by intro e; rw [e] at hL; simp at hL; omega) (by rw [hv]; rfl) ?_
  obtain ⟨hs, A2, n2, c2, e, r⟩ := h.2.2.1 k hk
  rw [hv] at e
  injection e with e1 e2 e3; subst e1; subst e2; subst e3
  refine ⟨by rw [List.length_set]; exact hs, _, _, _, hv, ?_⟩
  have := r.set j (.int .i64 v)
  rw [cI_set] at this
  exact this
/-- two rows exchanged -/
def swapR {α : Type} (z : α) (d : List α) (a k : Nat) : List α := (d.set a (d.getD k z)).set k (d.getD a z)
theorem swapR_length {α : Type} (z : α) (d : List α) (a k : Nat) : (swapR z d a k).length = d.length := by simp [swapR]
theorem swapR_get {α : Type} (z : α) (d : List α) (a k i : Nat) (ha : a < d.length) (hk : k < d.length) : (swapR z d a k).getD i z = d.getD (if i = k then a else if i = a then k else i) z := by
  unfold swapR
  rw [getD_set1 _ _ _ _ _ (by simpa using hk)]
  by_cases h1 : k = i
  · subst h1; rw [if_pos rfl, if_pos rfl]
  · rw [if_neg h1, if_neg (fun e => h1 e.symm), getD_set1 _ _ _ _ _ ha]
    by_cases h2 : a = i
    · subst h2; rw [if_pos rfl, if_pos rfl]
    · rw [if_neg h2, if_neg (fun e => h2 e.symm)]
theorem OwR.swap {a : Nat} (h : OwR w lo hi A n c vs d) (hz : hi ≤ w.heap.size) (ha : a < n) (hk : k < n) (hA : A = some ⟨g, 0, none⟩) (hkp : Kept g (g + 1) w w')
    (ho : Ow w' lo hi 27 1 A n c (swapR undef vs a k)) : OwR w' lo hi A n c (swapR undef vs a k) (swapR [] d a k) := by
  obtain ⟨h1, h2, h3, h4⟩ := h
  have hlv : vs.length = n := by have := h1.1; omega
  have gv : ∀ i, (swapR undef vs a k).getD i undef = vs.getD (if i = k then a else if i = a then k else i) undef := fun i => swapR_get _ _ _ _ _ (by omega) (by omega)
  have gd : ∀ i, (swapR [] d a k).getD i [] = d.getD (if i = k then a else if i = a then k else i) [] := fun i => swapR_get _ _ _ _ _ (by omega) (by omega)
  have lt : ∀ i, i < n → (if i = k then a else if i = a then k else i) < n := by
    intro i hi
    by_cases e1 : i = k
    · rw [if_pos e1]; exact ha
    · rw [if_neg e1]; split <;> omega
  refine ⟨ho, by rw [swapR_length]; exact h2, fun i hi => ?_, fun i j hi hj hij hx hy => ?_⟩
  · rw [gv, gd]
    refine (h3 _ (lt i hi)).kept1 hkp hz fun hx e => ?_
    obtain ⟨g', _, _, hb2, _, cs, hb⟩ := (h3 _ (lt i hi)).tight hx
    rw [hb2] at e; injection e with e; subst e
    obtain ⟨g2, cs', e2, _, _, hb', _⟩ := h1.lt (by omega)
    rw [hA] at e2; injection e2 with e2; injection e2 with e2; subst e2
    rw [hb] at hb'; injection hb' with hb'; injection hb' with _ ht
    exact absurd ht (by decide)
  · rw [gd] at hx hy
    rw [gv, gv]
    refine h4 _ _ (lt i hi) (lt j hj) (fun e => hij ?_) hx hy
    split at e <;> split at e <;> (try split at e) <;> (try split at e) <;> omega
theorem OwR.drew (h : OwR w lo hi A n c vs d) : OwR w.drew lo hi A n c vs d := h
theorem OwR.still (h : OwR w lo hi A n c vs d) (hs : Still w w') : OwR w' lo hi A n c vs d := by obtain ⟨q, rfl⟩ := hs; exact h
/-- a row of one's own behind the rows: nothing of it turns -/
theorem own_kept {B e : Nat} {v : Value} {xs : List Value} (h : w.ownsRow B e 1 v k xs) (hk : Kept g (g + 1) w w') (hg : g < B) : w'.ownsRow B e 1 v k xs := by
  refine ⟨h.1, ?_⟩
  rcases h.2 with h0 | ⟨g', cap, cur, rfl, hl, hh, r⟩
  · exact .inl h0
  · exact .inr ⟨g', cap, cur, rfl, hl, by rw [hk.block g' (Array.getElem?_eq_some_iff.1 hh).1 (by omega)]; exact hh, r⟩
end
/-- the cells of a list turned one by one -/
def updJ (F : Nat → Int) (x : List Int) : Nat → List Int
  | 0 => x
  | j + 1 => (updJ F x j).set j (F j)
theorem updJ_length (F : Nat → Int) (x : List Int) (j : Nat) : (updJ F x j).length = x.length := by
  induction j with
  | zero => rfl
  | succ j ih => rw [updJ, List.length_set, ih]
theorem updJ_get (F : Nat → Int) (x : List Int) (j i : Nat) (hj : j ≤ x.length) : (updJ F x j).getD i 0 = if i < j then F i else x.getD i 0 := by
  induction j with
  | zero => rfl
  | succ j ih =>
    rw [updJ, getD_set1 _ _ _ _ _ (by rw [updJ_length]; omega), ih (by omega)]
    by_cases h1 : j = i
    · subst h1; rw [if_pos rfl, if_pos (by omega)]
    · rw [if_neg h1]
      by_cases h2 : i < j
      · rw [if_pos h2, if_pos (by omega)]
      · rw [if_neg h2, if_neg (by omega)]
section
variable {w w' : World} {lo hi n c k j g g0 L ci : Nat} {A : Option Addr} {vs : List Value} {d : List (List Int)}
/-- the cells of one row, its slice known -/
theorem OwR.cells (h : OwR w lo hi A n c vs d) (hk : k < n) (hA : A = some ⟨g0, 0, none⟩) (hv : vs.getD k undef = .slice (some ⟨g, 0, none⟩) L ci) {y : List Int} (hy : d.getD k [] = y) (hj : j < L) :
    w.cell? ⟨g0, k, none⟩ = some (.slice (some ⟨g, 0, none⟩) L ci) ∧ w.frozen? ⟨g, j, none⟩ = false ∧ g < hi ∧ ∃ z : Int, w.cell? ⟨g, j, none⟩ = some (.int .i64 z) ∧ Hid (z = y.getD j 0) := by
  subst hy
  obtain ⟨g', Ai, ni, ci', hA', _, _, hc, hv', ho, hn, _⟩ := h.row hk
  rw [hA] at hA'; injection hA' with hA'; injection hA' with hA'; subst hA'
  rw [hv] at hv'; injection hv' with e1 e2 e3; subst e1; subst e2; subst e3
  obtain ⟨_, A2, n2, c2, e, r⟩ := ho
  injection e with e1 e2 e3; subst e1; subst e2; subst e3
  obtain ⟨z, hz, hq⟩ := r.intAt hj
  obtain ⟨g2, _, e2, _, hlt, _⟩ := r.lt (by omega)
  injection e2 with e2; injection e2 with e2; subst e2
  exact ⟨hc, r.free (by omega) j, hlt, z, hz, hq⟩
theorem set_self (d : List (List Int)) (k : Nat) : d.set k (d.getD k []) = d := by
  apply List.ext_getElem?
  intro i
  rw [List.getElem?_set]
  by_cases hc : k = i
  · subst hc
    rw [if_pos rfl]
    by_cases h : k < d.length
    · rw [if_pos h]; simp [h]
    · rw [if_neg h]; exact (List.getElem?_eq_none (by omega)).symm
  · rw [if_neg hc]
theorem getD_upd {F : Nat → Int} {x : List Int} {D : List (List Int)} {n : Nat} (hD : D.length = n) (hk : k < n) : (D.set k (updJ F x j)).getD k [] = updJ F x j := by
  rw [getD_set1 _ _ _ _ _ (by omega), if_pos rfl]
theorem OwR.putU {F : Nat → Int} {x : List Int} {D : List (List Int)} {v : Int} (h : OwR w lo hi A n c vs (D.set k (updJ F x j))) (hD : D.length = n) (hz : hi ≤ w.heap.size) (hk : k < n) (hv : vs.getD k undef = .slice (some ⟨g, 0, none⟩) L ci) (hx : x.length = L) (hj : j < L) (hF : v = F j) :
    OwR (w.setCell ⟨g, j, none⟩ (.int .i64 v)) lo hi A n c vs (D.set k (updJ F x (j + 1))) := by
  have := h.put hz hk hv (by rw [getD_upd hD hk, updJ_length]; exact hx) hj v
  rw [getD_upd hD hk, List.set_set] at this
  rw [updJ, ← hF]
  exact this
end
end Go.Proofs.Ytbnobkojkfmccaa
