/- Chapter 3 in the model: elimination. -/
import Derived.Test.YtipdflbnnmghdaaWalk3b
import Derived.Deep.RegionHeld3
import Derived.Deep.RegionLaw
namespace Go.Proofs.Ytipdflbnnmghdaa
open Go.RowKit
set_option maxRecDepth 100000

def augR (d : List (List Int)) (r : List Int) (k : Nat) : List (List Int) := (List.range k).map fun i => d.getD i [] ++ [r.getD i 0]
theorem augR_succ (d : List (List Int)) (r : List Int) (k : Nat) : augR d r (k + 1) = augR d r k ++ [d.getD k [] ++ [r.getD k 0]] := by simp [augR, List.range_succ]
theorem getD_snoc {α : Type} (l : List α) (x z : α) (j : Nat) : (l ++ [x]).getD j z = if j < l.length then l.getD j z else if j = l.length then x else z := by
  simp only [List.getD_eq_getElem?_getD, List.getElem?_append]
  by_cases h : j < l.length
  · rw [if_pos h, if_pos h]
  · rw [if_neg h, if_neg h]
    by_cases h2 : j = l.length
    · rw [if_pos h2, h2, Nat.sub_self]; rfl
    · rw [if_neg h2, List.getElem?_eq_none (by simp; omega)]; rfl
theorem own_apart {w : World} {lo e n g : Nat} {v : Value} {xs : List Value} {ca : Array Value} (h : w.ownsRow lo e 1 v n xs) (he : e ≠ 3) (hg : w.heap[g]? = some (.cells ca 3 (0, 0))) : v.ownBlock ≠ some g := by
  intro e1
  rcases h.2 with ⟨rfl, _⟩ | ⟨g', cap, cur, rfl, _, hh, _⟩
  · simp [Value.ownBlock] at e1
  · simp [Value.ownBlock] at e1
    subst e1
    rw [hg] at hh; injection hh with hh; injection hh with _ ht
    exact he ht.symm
theorem own_in {w : World} {lo e n g : Nat} {v : Value} {xs : List Value} (h : w.ownsRow lo e 1 v n xs) (hg : v.ownBlock = some g) : g < w.heap.size := by
  rcases h.2 with ⟨rfl, _⟩ | ⟨g', cap, cur, rfl, _, hh, _⟩
  · simp [Value.ownBlock] at hg
  · simp [Value.ownBlock] at hg
    subst hg
    exact (Array.getElem?_eq_some_iff.1 hh).1
/-- one row more -/
theorem grow_rows {wr w2 W w3 : World} {lo i co L : Nat} {Ao : Option Addr} {ws : List Value} {D : List (List Int)} {v2 v3 : Value} {x : List Int}
    (HN : wr.ownsRow lo 24 1 (.slice Ao i co) i ws) (HO : OwR wr lo wr.heap.size Ao i co ws D) (hlo : lo ≤ wr.heap.size) (hb2 : Below wr.heap.size wr w2) (hrow : w2.ownsRow wr.heap.size 3 1 v2 L (cI x)) (hx : L ≤ 1048576)
    (hW : Below w2.heap.size w2 W) (hown : w3.ownsRow lo 24 1 v3 (i + 1) (ws ++ [v2])) (hg : W.grownBy w3 (Value.ownBlock (.slice Ao i co))) :
    ∃ A3 c3, v3 = .slice A3 (i + 1) c3 ∧ w3.ownsRow lo 24 1 (.slice A3 (i + 1) c3) (i + 1) (ws ++ [v2]) ∧ OwR w3 lo w3.heap.size A3 (i + 1) c3 (ws ++ [v2]) (D ++ [x]) := by
  obtain ⟨A3, c3, rfl, ho3⟩ := Ow.of_own hown
  obtain ⟨h1, h2, h3, h4⟩ := HO
  have hlw : ws.length = i := by have := h1.1; omega
  have hz2 := hb2.size
  have hzW := hW.size
  have hz3 : w2.heap.size ≤ w3.heap.size := Nat.le_trans hzW hg.size
  -- a row of ints stays what it was
  have keep : ∀ {l h' : Nat} {u : Value} {y : List Int}, OwIntS w2 l h' u y → h' ≤ w2.heap.size → OwIntS w3 l h' u y := by
    intro l h' u y hu hh
    by_cases hy : y = []
    · subst hy; exact hu.empty _ _ _
    · obtain ⟨g, hg1, hg2, hgb, ht, cs, hcs⟩ := hu.tight hy
      have hne : Value.ownBlock (.slice Ao i co) ≠ some g := by
        intro e
        have hgw := own_in HN e
        exact own_apart HN (by decide) (by rw [← hb2.block g hgw]; exact hcs) e
      have hgk : w3.heap[g]? = w2.heap[g]? := by
        rw [hg.block g (by omega) (fun e => hne e.symm), hW.block g (by omega)]
      obtain ⟨hs, A, n, c, rfl, r⟩ := hu
      refine ⟨hs, A, n, c, rfl, r.1, r.2.1, ?_⟩
      rcases r.2.2 with r0 | ⟨g2, cs2, hA, q1, q2, q3, q4⟩
      · exact .inl r0
      · have : g2 = g := by rw [hA] at hgb; simpa [Value.ownBlock] using hgb
        subst this
        exact .inr ⟨g2, cs2, hA, q1, q2, by rw [hgk]; exact q3, q4⟩
  have hv2 : OwIntS w2 wr.heap.size w2.heap.size v2 x := own_done rfl hrow hx
  have gv : ∀ k, (ws ++ [v2]).getD k undef = if k < i then ws.getD k undef else if k = i then v2 else undef := by intro k; rw [getD_snoc, hlw]
  have gd : ∀ k, (D ++ [x]).getD k [] = if k < i then D.getD k [] else if k = i then x else [] := by intro k; rw [getD_snoc, h2]
  refine ⟨A3, c3, rfl, hown, ho3, by simp [h2], fun k hk => ?_, fun j k hj hk hjk hxj hxk => ?_⟩
  · rw [gv, gd]
    by_cases hki : k < i
    · rw [if_pos hki, if_pos hki]
      exact (keep ((h3 k hki).below hb2 (Nat.le_refl _)) hz2).widen (Nat.le_refl _) (by omega)
    · have : k = i := by omega
      subst this
      rw [if_neg hki, if_neg hki, if_pos rfl, if_pos rfl]
      exact (keep hv2 (Nat.le_refl _)).widen hlo hz3
  · rw [gd] at hxj hxk
    rw [gv, gv]
    by_cases hji : j < i
    · rw [if_pos hji] at hxj
      rw [if_pos hji]
      by_cases hki : k < i
      · rw [if_pos hki] at hxk
        rw [if_pos hki]
        exact h4 j k hji hki hjk hxj hxk
      · have : k = i := by omega
        subst this
        rw [if_neg hki, if_pos rfl] at hxk
        rw [if_neg hki, if_pos rfl]
        obtain ⟨g, _, a2, b2, _⟩ := (h3 j hji).tight hxj
        obtain ⟨g', a1, _, b1, _⟩ := hv2.tight hxk
        rw [b1, b2]; intro e; injection e with e; omega
    · have : j = i := by omega
      subst this
      rw [if_neg hji, if_pos rfl] at hxj
      rw [if_neg hji, if_pos rfl]
      have hki : k < j := by omega
      rw [if_pos hki] at hxk
      rw [if_pos hki]
      obtain ⟨g, _, a2, b2, _⟩ := (h3 k hki).tight hxk
      obtain ⟨g', a1, _, b1, _⟩ := hv2.tight hxj
      rw [b1, b2]; intro e; injection e with e; omega

theorem below_drew {B : Nat} {w w' : World} (h : Below B w w') : Below B w w'.drew := ⟨h.os, h.tape, h.output, h.size, h.block⟩
theorem hid_size {w : World} {g g' : Nat} {o : Obj} (e : g' = g) (h : w.heap[g']? = some o) : w.heap[g]? = some o := e ▸ h
theorem own_to {w w' : World} {base e n : Nat} {v : Value} {xs : List Value} (h : w.ownsRow base e 1 v n xs) (hb : Below w.heap.size w w') : w'.ownsRow base e 1 v n xs := ownsRow_below h hb
section
variable {ops : Array Oper} {o : Oper} {a : Act} {K : Act → World → Prop} {Q : Exit → Act → World → Prop} {E : Prop} {W wr : World}
/-- append([]int{}, x...) -/
theorem step_lit (hgd : o.guard = none) (s x : Operand)
    (ho : o.op = .call { callee := .builtin .append, args := #[s, x], argTypes := #[24, 24] })
    {lo B m c : Nat} {A : Option Addr} {zs : List Int} (hs : a.eval s = .slice (some ⟨B, 0, none⟩) 0 0) (hx : a.eval x = .slice A m c) (hB : wr.heap.size ≤ B) (hlit : W.heap[B]? = some (.cells #[] 3 (0, 0)))
    (hr : Rd wr lo 1 A m (cI zs)) (hlo : lo ≤ wr.heap.size) (hbel : Below wr.heap.size wr W) (hm : m ≤ 1000)
    (h : ∀ v' w', Hid (w'.ownsRow wr.heap.size 3 1 v' m (cI zs)) → Hid (Below wr.heap.size wr w') → Hid (∀ (g : Nat) (u : Value), W.heap[g]? = some (Obj.cells #[u] 3 (0, 0)) → w'.heap[g]? = some (Obj.cells #[u] 3 (0, 0))) → K (a.put o.dst v') w') :
    if Region.wanted o (yielded ops a.tmps) = true then Oper.wp Try.prog o a W K Q else E := by
  refine step_append_rd hgd s x _ ho wr.heap.size 3 _ 1 8 Try.underlying24 info_int rfl (by decide) _ 0 [] hs (own_lit0 hB hlit) _ _ m c (cI zs) hx (hr.below (hbel.mono hlo)) (cI_one _) (by unfold maxLen; omega) (by omega) hbel.size ?_
  intro v1 w1 hown hg _
  refine h v1 w1 (Lib.hid (by simpa using hown)) (Lib.hid (below_grown hbel hg (own_block (own_lit0 (e := 3) (size := 1) hB hlit)) hbel.size)) (Lib.hid fun g u hu => ?_)
  rw [hg.block g (Array.getElem?_eq_some_iff.1 hu).1 ?_]
  · exact hu
  · intro e
    simp [Value.ownBlock] at e
    subst e
    rw [hlit] at hu; simp at hu
/-- append(v, q) -/
theorem step_lit2 {w1 : World} (hgd : o.guard = none) (s x : Operand)
    (ho : o.op = .call { callee := .builtin .append, args := #[s, x], argTypes := #[24, 24] })
    {g m : Nat} {zs : List Int} {v : Value} {q : Int} (hs : a.eval s = v) (hx : a.eval x = .slice (some ⟨g, 0, none⟩) 1 1) (hown : w1.ownsRow wr.heap.size 3 1 v m (cI zs)) (hb1 : Below wr.heap.size wr w1) (hW : Below w1.heap.size w1 W)
    (hl : W.heap[g]? = some (.cells #[.int .i64 q] 3 (0, 0))) (hm : m ≤ 1000)
    (h : ∀ A' c' w', Hid (w'.ownsRow wr.heap.size 3 1 (.slice A' (m + 1) c') (m + 1) (cI (zs ++ [q]))) → Hid (Below wr.heap.size wr w') → K (a.put o.dst (.slice A' (m + 1) c')) w') :
    if Region.wanted o (yielded ops a.tmps) = true then Oper.wp Try.prog o a W K Q else E := by
  have hb2 : Below wr.heap.size wr W := hb1.trans (hW.mono hb1.size)
  refine step_append_rd hgd s x _ ho wr.heap.size 3 _ 1 8 Try.underlying24 info_int rfl (by decide) v m (cI zs) hs (own_to hown hW) _ _ 1 1 (cI [q]) hx (lit_at hl) (cI_one _) (by unfold maxLen; omega) (by omega) hb2.size ?_
  intro v1 w1 hown' hg _
  obtain ⟨A1, c1, rfl, _⟩ := Ow.of_own hown'
  exact h A1 c1 w1 (Lib.hid (by rw [cI_append]; exact hown')) (Lib.hid (below_grown hb2 hg (own_block hown) hb2.size))
end
end Go.Proofs.Ytipdflbnnmghdaa
