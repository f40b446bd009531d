/- Chapter 3 in the model: MatrixOk as the laws meet it; lemmas for MatrixKernel (whose walk is still to be written). -/
import Derived.Test.YtbnobkojkfmccaaWalk3f
namespace Go.Proofs.Ytbnobkojkfmccaa
open Go.RowKit
set_option maxRecDepth 100000

theorem X_s_MatrixOk (v : Value) (a : List (List Int)) (w : World) (h : RdIntSS w w.heap.size v a) (hs : szIntSS a ≤ 1048576) :
    Calls Try.prog 13 #[v] w fun e w' => e = .returned (.bool (matB a)) ∧ Below w.heap.size w w' := by
  obtain ⟨A, n, c, vs, rfl, _, r⟩ := h
  have hl := r.2.1
  unfold szIntSS at hs
  exact (s_MatrixOk A n c vs a w r (by omega) (by rw [← hl]; omega)).mono fun e w' ⟨he, hw⟩ => ⟨he, hw.below _⟩

section
variable {w w' : World} {lo hi e size n c : Nat} {A : Option Addr} {xs vs : List Value} {d : List (List Int)}
/-- the blocks from lo to hi stay: what is owned there stays -/
theorem Ow.same (h : Ow w lo hi e size A n c xs) (hb : ∀ g, lo ≤ g → g < hi → w'.heap[g]? = w.heap[g]?) : Ow w' lo hi e size A n c xs := by
  refine ⟨h.1, h.2.1, ?_⟩
  rcases h.2.2 with h0 | ⟨g, cs, rfl, a, b, hg, r⟩
  · exact .inl h0
  · exact .inr ⟨g, cs, rfl, a, b, by rw [hb g a b]; exact hg, r⟩
theorem OwIntS.same {v : Value} {x : List Int} (h : OwIntS w lo hi v x) (hb : ∀ g, lo ≤ g → g < hi → w'.heap[g]? = w.heap[g]?) : OwIntS w' lo hi v x := by
  obtain ⟨hs, A, n, c, rfl, r⟩ := h
  exact ⟨hs, A, n, c, rfl, r.same hb⟩
theorem OwR.same (h : OwR w lo hi A n c vs d) (hb : ∀ g, lo ≤ g → g < hi → w'.heap[g]? = w.heap[g]?) : OwR w' lo hi A n c vs d :=
  ⟨h.1.same hb, h.2.1, fun i hi' => (h.2.2.1 i hi').same hb, h.2.2.2⟩
end
/-- one row more, the row itself whatever owns its ints -/
theorem grow_rowsO {wr w2 W w3 : World} {lo i co : Nat} {Ao : Option Addr} {ws : List Value} {D : List (List Int)} {v2 v3 : Value} {x : List Int}
    (HN : wr.ownsRow lo 27 1 (.slice Ao i co) i ws) (HO : OwR wr lo wr.heap.size Ao i co ws D) (hlo : lo ≤ wr.heap.size) (hb2 : Below wr.heap.size wr w2) (hv2 : OwIntS w2 wr.heap.size w2.heap.size v2 x)
    (hW : Below w2.heap.size w2 W) (hown : w3.ownsRow lo 27 1 v3 (i + 1) (ws ++ [v2])) (hg : W.grownBy w3 (Value.ownBlock (.slice Ao i co))) :
    ∃ A3 c3, v3 = .slice A3 (i + 1) c3 ∧ w3.ownsRow lo 27 1 (.slice A3 (i + 1) c3) (i + 1) (ws ++ [v2]) ∧ OwR w3 lo w3.heap.size A3 (i + 1) c3 (ws ++ [v2]) (D ++ [x]) := by
  obtain ⟨A3, c3, rfl, ho3⟩ := Ow.of_own hown
  obtain ⟨h1, h2, h3, h4⟩ := HO
  have hlw : ws.length = i := by have := h1.1; omega
  have hz2 := hb2.size
  have hzW := hW.size
  have hz3 : w2.heap.size ≤ w3.heap.size := Nat.le_trans hzW hg.size
  have keep : ∀ {l h' : Nat} {u : Value} {y : List Int}, OwIntS w2 l h' u y → h' ≤ w2.heap.size → OwIntS w3 l h' u y := by
    intro l h' u y hu hh
    by_cases hy : y = []
    · subst hy; exact hu.empty _ _ _
    · obtain ⟨g, hg1, hg2, hgb, ht, cs, hcs⟩ := hu.tight hy
      have hne : Value.ownBlock (.slice Ao i co) ≠ some g := by
        intro e
        have hgw := own_in HN e
        exact own_apart HN (by decide) (by rw [← hb2.block g hgw]; exact hcs) e
      have hgk : w3.heap[g]? = w2.heap[g]? := by
        rw [hg.block g (by omega) (fun e => hne e.symm), hW.block g (by omega)]
      obtain ⟨hs, A, n, c, rfl, r⟩ := hu
      refine ⟨hs, A, n, c, rfl, r.1, r.2.1, ?_⟩
      rcases r.2.2 with r0 | ⟨g2, cs2, hA, q1, q2, q3, q4⟩
      · exact .inl r0
      · have : g2 = g := by rw [hA] at hgb; simpa [Value.ownBlock] using hgb
        subst this
        exact .inr ⟨g2, cs2, hA, q1, q2, by rw [hgk]; exact q3, q4⟩
  have gv : ∀ k, (ws ++ [v2]).getD k undef = if k < i then ws.getD k undef else if k = i then v2 else undef := by intro k; rw [getD_snoc, hlw]
  have gd : ∀ k, (D ++ [x]).getD k [] = if k < i then D.getD k [] else if k = i then x else [] := by intro k; rw [getD_snoc, h2]
  refine ⟨A3, c3, rfl, hown, ho3, by simp [h2], fun k hk => ?_, fun j k hj hk hjk hxj hxk => ?_⟩
  · rw [gv, gd]
    by_cases hki : k < i
    · rw [if_pos hki, if_pos hki]
      exact (keep ((h3 k hki).below hb2 (Nat.le_refl _)) hz2).widen (Nat.le_refl _) (by omega)
    · have : k = i := by omega
      subst this
      rw [if_neg hki, if_neg hki, if_pos rfl, if_pos rfl]
      exact (keep hv2 (Nat.le_refl _)).widen hlo hz3
  · rw [gd] at hxj hxk
    rw [gv, gv]
    by_cases hji : j < i
    · rw [if_pos hji] at hxj
      rw [if_pos hji]
      by_cases hki : k < i
      · rw [if_pos hki] at hxk
        rw [if_pos hki]
        exact h4 j k hji hki hjk hxj hxk
      · have : k = i := by omega
        subst this
        rw [if_neg hki, if_pos rfl] at hxk
        rw [if_neg hki, if_pos rfl]
        obtain ⟨g, _, a2, b2, _⟩ := (h3 j hji).tight hxj
        obtain ⟨g', a1, _, b1, _⟩ := hv2.tight hxk
        rw [b1, b2]; intro e; injection e with e; omega
    · have : j = i := by omega
      subst this
      rw [if_neg hji, if_pos rfl] at hxj
      rw [if_neg hji, if_pos rfl]
      have hki : k < j := by omega
      rw [if_pos hki] at hxk
      rw [if_pos hki]
      obtain ⟨g, _, a2, b2, _⟩ := (h3 k hki).tight hxk
      obtain ⟨g', a1, _, b1, _⟩ := hv2.tight hxj
      rw [b1, b2]; intro e; injection e with e; omega
end Go.Proofs.Ytbnobkojkfmccaa
