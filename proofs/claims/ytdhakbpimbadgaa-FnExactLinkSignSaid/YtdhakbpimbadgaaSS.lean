/- Lists of lists of ints: what reads, what is owned. -/
import Derived.Test.YtdhakbpimbadgaaFaceI
import Derived.StillTailTactics
namespace Go.Proofs.Ytdhakbpimbadgaa
open Go.RowKit
set_option maxRecDepth 100000

/-- the sum of the lengths of the first k rows -/
def lensK (d : List (List Int)) : Nat → Nat
  | 0 => 0
  | k + 1 => lensK d k + (d.getD k []).length
theorem lensK_mono (d : List (List Int)) {i j : Nat} (h : i ≤ j) : lensK d i ≤ lensK d j := by
  induction j with
  | zero => rw [show i = 0 by omega]; exact Nat.le_refl _
  | succ j ih =>
    by_cases hc : i = j + 1
    · rw [hc]; exact Nat.le_refl _
    · have := ih (by omega); rw [lensK]; omega
theorem lensK_row (d : List (List Int)) {k n : Nat} (h : k < n) : (d.getD k []).length ≤ lensK d n := by
  have := lensK_mono d (show k + 1 ≤ n by omega); rw [lensK] at this; omega

/-- (A, n) reads as the rows d, below block hi -/
def RdR (w : World) (hi : Nat) (A : Option Addr) (n : Nat) (vs : List Value) (d : List (List Int)) : Prop :=
  Rd w hi 1 A n vs ∧ d.length = n ∧ ∀ i, i < n → RdIntS w hi (vs.getD i undef) (d.getD i [])
/-- (A, n, c) is a row of slices of its own, each of which owns its ints; no two share a block -/
def OwR (w : World) (lo hi : Nat) (A : Option Addr) (n c : Nat) (vs : List Value) (d : List (List Int)) : Prop :=
  Ow w lo hi 22 1 A n c vs ∧ d.length = n ∧ (∀ i, i < n → OwIntS w lo hi (vs.getD i undef) (d.getD i [])) ∧
  ∀ i j, i < n → j < n → i ≠ j → d.getD i [] ≠ [] → d.getD j [] ≠ [] → (vs.getD i undef).ownBlock ≠ (vs.getD j undef).ownBlock

section
variable {w w' : World} {lo hi lo' hi' n c k g : Nat} {A : Option Addr} {vs : List Value} {d : List (List Int)}
theorem getD_get {vs : List Value} (h : k < vs.length) : vs[k]? = some (vs.getD k undef) := by simp [h]
theorem RdR.row (h : RdR w hi A n vs d) (hk : k < n) : ∃ (a : Addr) (Ai : Option Addr) (ni ci : Nat), A = some a ∧ a.block < hi ∧ w.cell? (a.add k) = some (.slice Ai ni ci) ∧ RdIntS w hi (.slice Ai ni ci) (d.getD k []) ∧ ni ≤ 9223372036854775807 ∧ (d.getD k []).length = ni := by
  obtain ⟨h1, h2, h3⟩ := h
  obtain ⟨a, e, hb, hc⟩ := h1.2 (by omega)
  have hl := h1.1
  have hr := h3 k hk
  obtain ⟨Ai, ni, ci, e2, hn, r⟩ := h3 k hk
  refine ⟨a, Ai, ni, ci, e, hb, ?_, ?_, hn, r.len⟩
  · rw [← e2]; exact hc k _ (getD_get (by omega))
  · rw [← e2]; exact hr
theorem RdR.keep (h : RdR w hi A n vs d) (hb : Below hi w w') : RdR w' hi A n vs d := ⟨h.1.below hb, h.2.1, fun i hi' => (h.2.2 i hi').below hb⟩
theorem RdR.more (h : RdR w hi A n vs d) (hh : hi ≤ hi') : RdR w hi' A n vs d := ⟨h.1.more hh, h.2.1, fun i hi' => (h.2.2 i hi').more hh⟩
theorem OwR.rd (h : OwR w lo hi A n c vs d) : RdR w hi A n vs d := ⟨h.1.rd, h.2.1, fun i hi' => (h.2.2.1 i hi').rd⟩
theorem OwR.below {B : Nat} (h : OwR w lo hi A n c vs d) (hb : Below B w w') (hz : hi ≤ B) : OwR w' lo hi A n c vs d :=
  ⟨h.1.below hb hz, h.2.1, fun i hi' => (h.2.2.1 i hi').below hb hz, h.2.2.2⟩
theorem OwR.kept {mid : Nat} (h : OwR w lo hi A n c vs d) (hk : Kept lo' mid w w') (hz : hi ≤ w.heap.size) (hd : mid ≤ lo ∨ hi ≤ lo') : OwR w' lo hi A n c vs d :=
  ⟨h.1.kept hk hz hd, h.2.1, fun i hi' => (h.2.2.1 i hi').kept hk hz hd, h.2.2.2⟩
theorem OwR.widen (h : OwR w lo hi A n c vs d) (h1 : lo' ≤ lo) (h2 : hi ≤ hi') : OwR w lo' hi' A n c vs d :=
  ⟨h.1.widen h1 h2, h.2.1, fun i hi' => (h.2.2.1 i hi').widen h1 h2, h.2.2.2⟩
/-- but one block has turned, and it is another one -/
theorem Ow.kept1 {e size : Nat} {xs : List Value} (h : Ow w lo hi e size A n c xs) (hk : Kept g (g + 1) w w') (hz : hi ≤ w.heap.size) (hne : 0 < n → A ≠ some ⟨g, 0, none⟩) : Ow w' lo hi e size A n c xs := by
  refine ⟨h.1, h.2.1, ?_⟩
  rcases h.2.2 with h0 | ⟨g', cs, rfl, a, b, hb, r⟩
  · exact .inl h0
  · by_cases h0 : n = 0
    · exact .inl h0
    · have : g' ≠ g := fun e => hne (by omega) (by rw [e])
      exact .inr ⟨g', cs, rfl, a, b, by rw [hk.block g' (by omega) (by omega)]; exact hb, r⟩
theorem OwIntS.kept1 {v : Value} {x : List Int} (h : OwIntS w lo hi v x) (hk : Kept g (g + 1) w w') (hz : hi ≤ w.heap.size) (hne : x ≠ [] → v.ownBlock ≠ some g) : OwIntS w' lo hi v x := by
  obtain ⟨hs, A, n, c, rfl, r⟩ := h
  refine ⟨hs, A, n, c, rfl, r.kept1 hk hz fun h0 e => ?_⟩
  have hl := r.len
  exact hne (by intro e; rw [e] at hl; simp at hl; omega) (by rw [e]; rfl)
/-- what is not empty lies in one block -/
theorem OwIntS.tight {v : Value} {x : List Int} (h : OwIntS w lo hi v x) (hx : x ≠ []) : ∃ g, lo ≤ g ∧ g < hi ∧ v.ownBlock = some g ∧ OwIntS w g (g + 1) v x ∧ ∃ cs, w.heap[g]? = some (.cells cs 3 (0, 0)) := by
  obtain ⟨hs, A, n, c, rfl, r⟩ := h
  have hl := r.len
  have hn : 0 < n := by rcases Nat.eq_zero_or_pos n with h0 | h0; · exact absurd (List.eq_nil_of_length_eq_zero (by omega)) hx
                        · exact h0
  obtain ⟨g, cs, rfl, a, b, hb, ht⟩ := r.lt hn
  exact ⟨g, a, b, rfl, ⟨hs, _, _, _, rfl, r.1, r.2.1, .inr ⟨g, cs, rfl, Nat.le_refl _, by omega, hb, ht⟩⟩, cs, hb⟩
/-- an empty one lies anywhere -/
theorem OwIntS.empty {v : Value} (h : OwIntS w lo hi v []) (lo' hi' : Nat) (w' : World) : OwIntS w' lo' hi' v [] := by
  obtain ⟨hs, A, n, c, rfl, r⟩ := h
  exact ⟨hs, A, n, c, rfl, by have := r.len; simp [cI]; simpa using this, r.2.1, .inl (by have := r.len.symm; simpa using this)⟩
theorem OwR.row (h : OwR w lo hi A n c vs d) (hk : k < n) : ∃ (g : Nat) (Ai : Option Addr) (ni ci : Nat), A = some ⟨g, 0, none⟩ ∧ lo ≤ g ∧ g < hi ∧ w.cell? ⟨g, k, none⟩ = some (.slice Ai ni ci) ∧ vs.getD k undef = .slice Ai ni ci ∧ OwIntS w lo hi (.slice Ai ni ci) (d.getD k []) ∧ ni = (d.getD k []).length ∧ ni ≤ ci := by
  obtain ⟨h1, h2, h3, _⟩ := h
  obtain ⟨g, cs, rfl, a, b, hb, ht⟩ := h1.lt (by omega)
  have hl := h1.1
  have hr := h3 k hk
  obtain ⟨_, Ai, ni, ci, e2, r⟩ := h3 k hk
  refine ⟨g, Ai, ni, ci, rfl, a, b, ?_, e2, ?_, r.len.symm, r.2.1⟩
  · rw [← e2]; exact h1.cellAt (getD_get (by omega))
  · rw [← e2]; exact hr
/-- one row turned in its block -/
theorem OwR.turn (h : OwR w lo hi A n c vs d) (hk : k < n) {x : List Int} (hkp : Kept g (g + 1) w w') (hz : hi ≤ w.heap.size) (hx : d.getD k [] ≠ []) (hg : (vs.getD k undef).ownBlock = some g) (ho : OwIntS w' lo hi (vs.getD k undef) x) :
    OwR w' lo hi A n c vs (d.set k x) := by
  obtain ⟨h1, h2, h3, h4⟩ := h
  have get : ∀ i, (d.set k x).getD i [] = if k = i then x else d.getD i [] := by
    intro i
    simp only [List.getD_eq_getElem?_getD, List.getElem?_set]
    by_cases hc : k = i
    · subst hc; rw [if_pos rfl, if_pos rfl, if_pos (by omega)]; rfl
    · rw [if_neg hc, if_neg hc]
  refine ⟨h1.kept1 hkp hz fun hn e => ?_, by rw [List.length_set]; exact h2, fun i hi' => ?_, fun i j hi' hj' hij hxi hxj => ?_⟩
  · obtain ⟨g', cs', rfl, _, _, hb', _⟩ := h1.lt hn
    injection e with e; injection e with e; subst e
    obtain ⟨g2, _, _, hb2, _, cs, hb⟩ := (h3 k hk).tight hx
    rw [hb2] at hg; injection hg with hg; subst hg
    rw [hb] at hb'; injection hb' with hb'; injection hb' with _ ht
    exact absurd ht (by decide)
  · rw [get i]
    by_cases hc : k = i
    · subst hc; rw [if_pos rfl]; exact ho
    · rw [if_neg hc]
      refine (h3 i hi').kept1 hkp hz fun hne => ?_
      rw [← hg]; exact h4 i k hi' hk (fun e => hc e.symm) hne hx
  · refine h4 i j hi' hj' hij ?_ ?_
    · rw [get i] at hxi
      by_cases hc : k = i
      · subst hc; exact hx
      · rwa [if_neg hc] at hxi
    · rw [get j] at hxj
      by_cases hc : k = j
      · subst hc; exact hx
      · rwa [if_neg hc] at hxj
end

theorem info_row : (Try.prog.info? 22).map (fun i => (i.zero, i.size, i.bytes)) = some (some (.slice none 0 0), 1, 24) := by kernel_rfl

/-- the first k rows copied, the others still nil -/
def copyR (d : List (List Int)) (n k : Nat) : List (List Int) := d.take k ++ List.replicate (n - k) []
theorem copyR_get (d : List (List Int)) (n k i : Nat) (h : d.length = n) (hk : k ≤ n) : (copyR d n k).getD i [] = if i < k then d.getD i [] else [] := by
  unfold copyR
  simp only [List.getD_eq_getElem?_getD, List.getElem?_append, List.length_take, List.getElem?_take, List.getElem?_replicate]
  by_cases h1 : i < k
  · rw [if_pos (by omega), if_pos h1, if_pos h1]
  · rw [if_neg (by omega), if_neg h1]
    by_cases h2 : i - min k d.length < n - k
    · rw [if_pos h2]; rfl
    · rw [if_neg h2]; rfl
theorem copyR_all (d : List (List Int)) (n : Nat) (h : d.length = n) : copyR d n n = d := by
  unfold copyR; rw [List.take_of_length_le (by omega), Nat.sub_self]; simp

/-- rows marked one behind the other -/
def mkRow (K : Int) (d : List (List Int)) (i : Nat) : List Int := iota (K + lensK d i) (d.getD i []).length
def mkIntSS (K : Int) (d : List (List Int)) : List (List Int) := (List.range d.length).map (mkRow K d)
def markR (K : Int) (d : List (List Int)) (k : Nat) : List (List Int) := (List.range d.length).map fun i => if i < k then mkRow K d i else d.getD i []
theorem markR_get (K : Int) (d : List (List Int)) (k i : Nat) (h : i < d.length) : (markR K d k).getD i [] = if i < k then mkRow K d i else d.getD i [] := by simp [markR, h]
theorem mkIntSS_get (K : Int) (d : List (List Int)) (i : Nat) (h : i < d.length) : (mkIntSS K d).getD i [] = mkRow K d i := by simp [mkIntSS, h]
theorem mkRow_len (K : Int) (d : List (List Int)) (i : Nat) : (mkRow K d i).length = (d.getD i []).length := by rw [mkRow, iota_length]
theorem markR_length (K : Int) (d : List (List Int)) (k : Nat) : (markR K d k).length = d.length := by simp [markR]
theorem mkIntSS_length (K : Int) (d : List (List Int)) : (mkIntSS K d).length = d.length := by simp [mkIntSS]
theorem ext_rows {p q : List (List Int)} (hl : p.length = q.length) (h : ∀ j, j < p.length → p.getD j [] = q.getD j []) : p = q := by
  apply List.ext_getElem hl
  intro j h1 h2
  have := h j h1
  simpa [h1, h2] using this
theorem markR_0 (K : Int) (d : List (List Int)) : markR K d 0 = d := ext_rows (markR_length _ _ _) fun j hj => by rw [markR_length] at hj; rw [markR_get _ _ _ _ hj, if_neg (by omega)]
theorem markR_n (K : Int) (d : List (List Int)) : markR K d d.length = mkIntSS K d := ext_rows (by rw [markR_length, mkIntSS_length]) fun j hj => by rw [markR_length] at hj; rw [markR_get _ _ _ _ hj, if_pos hj, mkIntSS_get _ _ _ hj]
theorem markR_succ (K : Int) (d : List (List Int)) (k : Nat) (_hk : k < d.length) : (markR K d k).set k (mkRow K d k) = markR K d (k + 1) := by
  refine ext_rows (by simp [markR_length]) fun j hj => ?_
  rw [List.length_set, markR_length] at hj
  rw [markR_get _ _ _ _ hj]
  simp only [List.getD_eq_getElem?_getD, List.getElem?_set, markR_length]
  by_cases hc : k = j
  · subst hc; rw [if_pos rfl, if_pos hj, if_pos (by omega)]; rfl
  · rw [if_neg hc, ← List.getD_eq_getElem?_getD, markR_get _ _ _ _ hj]
    by_cases h2 : j < k
    · rw [if_pos h2, if_pos (by omega)]
    · rw [if_neg h2, if_neg (by omega)]; rfl

end Go.Proofs.Ytdhakbpimbadgaa
