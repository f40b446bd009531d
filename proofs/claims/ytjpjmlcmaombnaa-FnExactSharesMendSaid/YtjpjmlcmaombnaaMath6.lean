/- Chapter 5: the search for a reading, as a function of lists. -/
import Derived.Test.YtjpjmlcmaombnaaWalk6a
namespace Go.Proofs.Ytjpjmlcmaombnaa
set_option maxRecDepth 100000

abbrev Pt := Int × Int
def GL (l : List Pt) : Prop := (∀ p ∈ l, (0 ≤ p.1 ∧ p.1 ≤ 112) ∧ 0 ≤ p.2 ∧ p.2 ≤ 112) ∧ l.Pairwise (fun a b => a.1 ≠ b.1)
theorem GL.sub {l l' : List Pt} (h : GL l) (hs : l'.Sublist l) : GL l' := ⟨fun p hp => h.1 p (hs.subset hp), h.2.sublist hs⟩
theorem getD_mem (l : List Pt) (i : Nat) (h : i < l.length) : l.getD i (0, 0) = l[i] ∧ l[i] ∈ l := ⟨by simp [h], List.getElem_mem h⟩
theorem GL.good {l : List Pt} (h : GL l) : Good l l.length where
  x0 i hi := by unfold px; rw [(getD_mem l i hi).1]; exact (h.1 _ (getD_mem l i hi).2).1
  y0 i hi := by unfold py; rw [(getD_mem l i hi).1]; exact (h.1 _ (getD_mem l i hi).2).2
  ne i j hi hj hne := by
    unfold px; rw [(getD_mem l i hi).1, (getD_mem l j hj).1]
    rcases Nat.lt_or_gt_of_ne hne with hlt | hlt
    · exact List.pairwise_iff_getElem.1 h.2 i j hi hj hlt
    · exact fun e => List.pairwise_iff_getElem.1 h.2 j i hj hi hlt e.symm
theorem GL.of {l : List Pt} (h : Good l l.length) : GL l := by
  refine ⟨fun p hp => ?_, List.pairwise_iff_getElem.2 fun i j hi hj hlt => ?_⟩
  · obtain ⟨i, hi, rfl⟩ := List.mem_iff_getElem.1 hp
    have h1 := h.x0 i hi
    have h2 := h.y0 i hi
    unfold px at h1; unfold py at h2
    rw [(getD_mem l i hi).1] at h1 h2
    exact ⟨h1, h2⟩
  · have := h.ne i j hi hj (by omega)
    unfold px at this
    rwa [(getD_mem l i hi).1, (getD_mem l j hj).1] at this
def thrL (ch : List Pt) : List Int := thrS ch ch.length ch.length
theorem thrL_nums (ch : List Pt) : Nums (thrL ch) := thrS_nums _ _ _
theorem thrL_len (ch : List Pt) : (thrL ch).length ≤ ch.length := thrS_len _ _ _ (Nat.le_refl _)
theorem thrL_I {ch : List Pt} (h : GL ch) : (thrI ch ch.length).1 = thrL ch := through_one h.good
def wrL (p : List Int) (d : List Pt) : List Int := wrK p d d.length
def tstF (d : List Pt) (most : Int) (ch : List Pt) : Option (List Int) := if ((wrL (thrL ch) d).length : Int) ≤ most then some (thrL ch) else none
def sF (d : List Pt) (b1 : Nat) (most : Int) : List Pt → List Pt → Option (List Int)
  | [], ch => if ch.length = b1 then tstF d most ch else none
  | q :: r, ch => if ch.length = b1 then tstF d most ch else match sF d b1 most r (ch ++ [q]) with
    | some p => some p
    | none => sF d b1 most r ch
theorem sF_leaf {d : List Pt} {b1 : Nat} {most : Int} {rest ch : List Pt} (h : ch.length = b1) : sF d b1 most rest ch = tstF d most ch := by
  cases rest <;> simp [sF, h]
theorem sF_nil {d : List Pt} {b1 : Nat} {most : Int} {ch : List Pt} (h : ch.length ≠ b1) : sF d b1 most [] ch = none := by simp [sF, h]
theorem sF_some {d : List Pt} {b1 : Nat} {most : Int} {q : Pt} {r ch : List Pt} {p : List Int} (h : ch.length ≠ b1) (hs : sF d b1 most r (ch ++ [q]) = some p) : sF d b1 most (q :: r) ch = some p := by simp [sF, h, hs]
theorem sF_none {d : List Pt} {b1 : Nat} {most : Int} {q : Pt} {r ch : List Pt} (h : ch.length ≠ b1) (hs : sF d b1 most r (ch ++ [q]) = none) : sF d b1 most (q :: r) ch = sF d b1 most r ch := by simp [sF, h, hs]
theorem drop_step (d : List Pt) (i : Nat) (h : i < d.length) : d.drop i = d.getD i (0, 0) :: d.drop (i + 1) := by
  rw [List.drop_eq_getElem_cons h]; simp [h]
theorem drop_sub (d ch : List Pt) {at_ i : Nat} (h : at_ ≤ i) : (ch ++ d.drop i).Sublist (ch ++ d.drop at_) := by
  refine List.Sublist.append_left ?_ ch
  have : d.drop i = (d.drop at_).drop (i - at_) := by rw [List.drop_drop]; congr 1; omega
  rw [this]; exact List.drop_sublist _ _
/-- what is found is a polynomial through some of the points -/
theorem sF_is {d : List Pt} {b1 : Nat} {most : Int} (rest : List Pt) : ∀ (ch : List Pt) (p : List Int), sF d b1 most rest ch = some p → ∃ l, p = thrL l ∧ l.length = b1 ∧ l.Sublist (ch ++ rest) ∧ ((wrL p d).length : Int) ≤ most := by
  have hl : ∀ (ch : List Pt) (p : List Int), tstF d most ch = some p → p = thrL ch ∧ ((wrL p d).length : Int) ≤ most := fun ch p h => by
    unfold tstF at h
    split at h
    · rename_i hm
      injection h with h; subst h; exact ⟨rfl, hm⟩
    · cases h
  induction rest with
  | nil =>
    intro ch p h
    by_cases hc : ch.length = b1
    · rw [sF_leaf hc] at h; exact ⟨ch, (hl _ _ h).1, hc, by simp, (hl _ _ h).2⟩
    · rw [sF_nil hc] at h; cases h
  | cons q r ih =>
    intro ch p h
    by_cases hc : ch.length = b1
    · rw [sF_leaf hc] at h; exact ⟨ch, (hl _ _ h).1, hc, by simp, (hl _ _ h).2⟩
    · cases hs : sF d b1 most r (ch ++ [q]) with
      | some p' =>
        rw [sF_some hc hs] at h; injection h with h; subst h
        obtain ⟨l, h1, h2, h3, h4⟩ := ih _ _ hs
        exact ⟨l, h1, h2, by simpa using h3, h4⟩
      | none =>
        rw [sF_none hc hs] at h
        obtain ⟨l, h1, h2, h3, h4⟩ := ih _ _ h
        exact ⟨l, h1, h2, h3.trans (List.Sublist.append_left (List.sublist_cons_self _ _) ch), h4⟩
end Go.Proofs.Ytjpjmlcmaombnaa
