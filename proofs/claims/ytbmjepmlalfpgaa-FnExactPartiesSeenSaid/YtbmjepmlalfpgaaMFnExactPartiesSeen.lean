import Derived.Test.YtbmjepmlalfpgaaWalk5b
import Derived.Test.YtbmjepmlalfpgaaWalk3b
import Derived.Deep.RegionHeld3
import Derived.Deep.RegionLaw
import Derived.RangeFuncNested
import Derived.RangeFuncCalls
import Derived.RangeFuncLeaves
import Derived.Shelf.Abstract
import Derived.OwnWalkIn
import Derived.TacticsInMore
import Derived.LoopNIn
import Derived.LoopIn
import Derived.Test.YtbmjepmlalfpgaaWalk8j
import Derived.Test.YtbmjepmlalfpgaaFaceP
import Derived.Test.YtbmjepmlalfpgaaSS2
import Derived.StillTailTactics
import Derived.Test.YtbmjepmlalfpgaaBx
import Derived.Test.YtbmjepmlalfpgaaLaw
import Derived.Lib.SmallJoins
import Derived.Test.YtbmjepmlalfpgaaCircuit
/- Chapter 4: SharesExplain as the laws meet it. -/
namespace Go.Proofs.Ytbmjepmlalfpgaa
open Go.RowKit
set_option maxRecDepth 100000

theorem set_same0 (l : List Int) (k : Nat) (hk : k < l.length) (h : l.getD k 0 = 0) : l.set k 0 = l := by
  apply List.ext_getElem?
  intro i
  rw [List.getElem?_set]
  by_cases hc : k = i
  · subst hc
    rw [if_pos rfl, if_pos hk]
    rw [getD_of _ _ hk] at h
    rw [List.getElem?_eq_getElem hk, h]
  · rw [if_neg hc]
theorem fill_zero {zs : List Int} {n k : Nat} (hz : zs.length = n) (hk : k < n) (h0 : zs.getD k 0 = 0) : zs.take k ++ List.replicate (n - k) 0 = zs.take (k + 1) ++ List.replicate (n - (k + 1)) 0 := by
  rw [← copy_step hz hk, h0]
  refine (set_same0 _ _ (by simp; omega) ?_).symm
  have hl : (zs.take k).length = k := by simp; omega
  simp [hl, show 0 < n - k by omega]

end Go.Proofs.Ytbmjepmlalfpgaa

/- Chapter 4: lists of points as results: marked, held; the numbers in them; SharesScale in the model. -/
namespace Go.Proofs.Ytbmjepmlalfpgaa
open Go.RowKit
set_option maxRecDepth 100000

theorem iotaP_get (K : Int) (n k : Nat) (h : k < n) : (iotaP K n).getD k (0, 0) = (K + 2 * (k : Int), K + 2 * (k : Int) + 1) := by
  simp [iotaP, h]

set_option maxHeartbeats 400000 in
theorem l_heldPointS (A : Option Addr) (n c hi : Nat) (K : Int) (w : World) (h : Rd w hi 2 A n (cP (iotaP K n))) (hn : n ≤ 1048576) (hK : 0 ≤ K) (hK2 : K ≤ 1000000000000) :
    Calls Try.prog 28 #[.slice A n c, .int .i64 K] w fun e w' => e = .returned (.int .i64 (K + 2 * n)) ∧ Still w w' := by
  have H := Lib.hid h
  clear h
  go_enter Try.func28, Try.ntmps28
  go_wp2
  go_loopw [1, 5] (fun kk i wr => ∃ k m : Nat, k ≤ n ∧ i = .int .i64 k ∧ kk = .int .i64 (K + 2 * k) ∧ wr = w.drewN m) (fun _ i _ => n - (intOf i).toNat)
  case atStart => exact ⟨0, 0, Nat.zero_le _, rfl, by go_num, rfl⟩
  case round =>
    obtain ⟨k, m, hk, rfl, rfl, rfl⟩ := hrel
    by_cases hlt : k < n
    · obtain ⟨a, x, y, rfl, hab, hx, hy, HP⟩ := H.out.ptAt hlt
      have hp := HP.out
      rw [iotaP_get K n k hlt] at hp
      injection hp with hp1 hp2
      subst hp1; subst hp2
      have i0 : (0 : Int) ≤ (k : Int) := by omega
      have i1 : (k : Int) < (n : Int) := by omega
      clear HP
      go_wp2
      try go_quiet (fail)
      try go_wp2
      go_roundw
      case rel => exact ⟨k + 1, _, by omega, by go_num, by go_num, rfl⟩
      case measure => simp [intOf] <;> omega
    · have hkn : k = n := by omega
      have HR : Hid (K + 2 * (k : Int) = K + 2 * (n : Int)) := Lib.hid (by rw [hkn])
      clear hkn
      go_wp2
      go_ret
      exact ⟨ret_int HR.out, m, rfl⟩

theorem L_heldPointS (hi : Nat) (v : Value) (d : List (Int × Int)) (K q : Int) (w : World) (h : RdPointS w hi v (mkPointS K d)) (_hz : hi ≤ w.heap.size) (hs : szPointS d ≤ 1048576) (hq : Hid (q = K)) (hK : 0 ≤ K) (hK2 : K ≤ 1000000000) :
    Calls Try.prog 28 #[v, .int .i64 q] w fun e w' => ∃ K', e = .returned (.int .i64 K') ∧ Hid (K' = K + 2 * szPointS d) ∧ 0 ≤ K' ∧ K' ≤ K + 2097152 ∧ Below w.heap.size w w' := by
  obtain ⟨A, n, c, rfl, _, r⟩ := h
  have hl := r.plen
  rw [mkPointS, iotaP_length] at hl
  unfold szPointS at hs
  obtain rfl : q = K := hq.out
  unfold mkPointS at r; rw [hl] at r
  refine (l_heldPointS A n c hi q w r (by omega) hK (by omega)).mono fun e w' ⟨he, hk⟩ => ?_
  exact ⟨_, he, Lib.hid (by unfold szPointS; omega), by omega, by omega, hk.below _⟩

/-! the numbers in a list of points -/
def numK (ps : List (Int × Int)) : Nat → Bool
  | 0 => true
  | k + 1 => numK ps k && (numB (px ps k) && numB (py ps k))
theorem numK_mono {ps : List (Int × Int)} {k n : Nat} (h : numK ps n = true) (hk : k ≤ n) : numK ps k = true := by
  induction n with
  | zero => rw [show k = 0 by omega]; rfl
  | succ n ih =>
    by_cases hc : k = n + 1
    · rw [hc]; exact h
    · exact ih (by simp only [numK, Bool.and_eq_true] at h; exact h.1) (by omega)
theorem numK_bad {ps : List (Int × Int)} {k n : Nat} (h : numK ps (k + 1) = false) (hk : k < n) : numK ps n = false := by
  apply Bool.eq_false_iff.2
  intro ht
  rw [numK_mono ht (show k + 1 ≤ n by omega)] at h; cases h
theorem numK_at {ps : List (Int × Int)} {k n : Nat} (h : numK ps n = true) (hk : k < n) : (0 ≤ px ps k ∧ px ps k ≤ 112) ∧ 0 ≤ py ps k ∧ py ps k ≤ 112 := by
  have := numK_mono h (show k + 1 ≤ n by omega)
  simp only [numK, Bool.and_eq_true] at this
  exact ⟨(numB_iff _).1 this.2.1, (numB_iff _).1 this.2.2⟩

set_option maxHeartbeats 1000000 in
theorem s_l4Points (A : Option Addr) (n c : Nat) (ps : List (Int × Int)) (w : World) (h : Rd w w.heap.size 2 A n (cP ps)) (hn : n ≤ 1048576) :
    Calls Try.prog 68 #[.slice A n c] w fun e w' => e = .returned (.bool (numK ps n)) ∧ w = w' := by
  have H := Lib.hid h
  clear h
  go_enter Try.func68, Try.ntmps68
  go_wp2
  go_loop [3] (fun i => ∃ k : Nat, k ≤ n ∧ i = .int .i64 k ∧ Hid (numK ps k = true)) (fun i => n - (intOf i).toNat)
  case atStart => exact ⟨0, Nat.zero_le _, rfl, Lib.hid rfl⟩
  case round =>
    obtain ⟨k, hk, rfl, HK⟩ := hrel
    by_cases hlt : k < n
    · obtain ⟨a, x, y, rfl, hab, hx, hy, HP⟩ := H.out.ptAt hlt
      have HXY := Lib.hid (pxy HP.out)
      have i0 : (0 : Int) ≤ (k : Int) := by omega
      have i1 : (k : Int) < (n : Int) := by omega
      cases hbx : numB x
      · have HF : Hid (false = numK ps n) := Lib.hid (numK_bad (k := k) (by rw [numK, HXY.out.1, hbx]; simp) hlt).symm
        go_wp2_with (first | (go_at_call 97; refine (s_NumOk _ _).mono ?_; rintro e w' ⟨rfl, rfl⟩) | go_in)
        go_ret
        exact ⟨ret_bool HF.out, rfl⟩
      · cases hby : numB y
        · have HF : Hid (false = numK ps n) := Lib.hid (numK_bad (k := k) (by rw [numK, HXY.out.2, hby]; simp) hlt).symm
          go_wp2_with (first | (go_at_call 97; refine (s_NumOk _ _).mono ?_; rintro e w' ⟨rfl, rfl⟩) | go_in)
          go_ret
          exact ⟨ret_bool HF.out, rfl⟩
        · have HK2 : Hid (numK ps (k + 1) = true) := Lib.hid (by rw [numK, HK.out, HXY.out.1, HXY.out.2, hbx, hby]; rfl)
          go_wp2_with (first | (go_at_call 97; refine (s_NumOk _ _).mono ?_; rintro e w' ⟨rfl, rfl⟩) | go_in)
          go_round
          case rel => exact ⟨k + 1, by omega, by go_num, HK2⟩
          case measure => simp [intOf] <;> omega
    · have HF : Hid (true = numK ps n) := Lib.hid (by rw [← HK.out, show k = n by omega])
      go_wp2
      go_ret
      exact ⟨ret_bool HF.out, rfl⟩

set_option maxHeartbeats 1000000 in
theorem i_pointsOfNumbers (A : Option Addr) (n c : Nat) (ps : List (Int × Int)) (w : World) (h : Rd w w.heap.size 2 A n (cP ps)) (hn : n ≤ 1048576) :
    Calls Try.prog 70 #[.slice A n c] w fun e w' => e = .returned (.bool (numK ps n)) ∧ Below w.heap.size w w' := by
  have H := Lib.hid h
  clear h
  go_enter Try.func70, Try.ntmps70
  go_wp2
  go_loopw [7] (fun i wr => ∃ k : Nat, k ≤ n ∧ i = .int .i64 k ∧ Hid (numK ps k = true) ∧ Hid (Below w.heap.size w wr)) (fun i _ => n - (intOf i).toNat)
  case atStart => exact ⟨0, Nat.zero_le _, rfl, Lib.hid rfl, Lib.hid (Below.refl _ _)⟩
  case round =>
    obtain ⟨k, hk, rfl, HK, HS⟩ := hrel
    by_cases hlt : k < n
    · obtain ⟨a, x, y, rfl, hab, hx0, hy0, HP⟩ := H.out.ptAt hlt
      have hx := (HS.out.cell (p := a.add (k * 2)) (by rw [add_block]; exact hab)).trans hx0
      have hy := (HS.out.cell (p := ⟨(a.add (k * 2)).block, (a.add (k * 2)).off + 1, none⟩) (by rw [add_block]; exact hab)).trans hy0
      have HXY := Lib.hid (pxy HP.out)
      clear hx0 hy0
      have HSa := Lib.hid ((HS.out.alloc HS.out.size (.cells #[.int .i64 x, .int .i64 y] 96)).alloc (by have := HS.out.size; simp; omega) (.cells #[.int .i64 x, .int .i64 y] 96))
      clear HS
      have i0 : (0 : Int) ≤ (k : Int) := by omega
      have i1 : (k : Int) < (n : Int) := by omega
      cases hb : numB x && numB y
      · have HF : Hid (false = numK ps n) := Lib.hid (numK_bad (k := k) (by rw [numK, HXY.out.1, HXY.out.2, hb]; simp) hlt).symm
        go_wp2_with fail
        refine (i_Point_ok _ _ _).mono ?_
        rintro e w' ⟨rfl, rfl⟩
        rw [hb]
        go_wp2
        go_ret
        exact ⟨ret_bool HF.out, HSa.out⟩
      · have HK2 : Hid (numK ps (k + 1) = true) := Lib.hid (by rw [numK, HK.out, HXY.out.1, HXY.out.2, hb]; rfl)
        go_wp2_with fail
        refine (i_Point_ok _ _ _).mono ?_
        rintro e w' ⟨rfl, rfl⟩
        rw [hb]
        go_wp2
        go_roundw
        case rel => exact ⟨k + 1, by omega, by go_num, HK2, HSa⟩
        case measure => simp [intOf] <;> omega
    · have HF : Hid (true = numK ps n) := Lib.hid (by rw [← HK.out, show k = n by omega])
      go_wp2
      go_ret
      exact ⟨ret_bool HF.out, HS.out⟩
end Go.Proofs.Ytbmjepmlalfpgaa

/- Chapter 3 in the model: elimination. -/
namespace Go.Proofs.Ytbmjepmlalfpgaa
open Go.RowKit
set_option maxRecDepth 100000

def augR (d : List (List Int)) (r : List Int) (k : Nat) : List (List Int) := (List.range k).map fun i => d.getD i [] ++ [r.getD i 0]
theorem augR_succ (d : List (List Int)) (r : List Int) (k : Nat) : augR d r (k + 1) = augR d r k ++ [d.getD k [] ++ [r.getD k 0]] := by simp [augR, List.range_succ]
theorem getD_snoc {α : Type} (l : List α) (x z : α) (j : Nat) : (l ++ [x]).getD j z = if j < l.length then l.getD j z else if j = l.length then x else z := by
  simp only [List.getD_eq_getElem?_getD, List.getElem?_append]
  by_cases h : j < l.length
  · rw [if_pos h, if_pos h]
  · rw [if_neg h, if_neg h]
    by_cases h2 : j = l.length
    · rw [if_pos h2, h2, Nat.sub_self]; rfl
    · rw [if_neg h2, List.getElem?_eq_none (by simp; omega)]; rfl
theorem own_apart {w : World} {lo e n g : Nat} {v : Value} {xs : List Value} {ca : Array Value} (h : w.ownsRow lo e 1 v n xs) (he : e ≠ 3) (hg : w.heap[g]? = some (.cells ca 3 (0, 0))) : v.ownBlock ≠ some g := by
  intro e1
  rcases h.2 with ⟨rfl, _⟩ | ⟨g', cap, cur, rfl, _, hh, _⟩
  · simp [Value.ownBlock] at e1
  · simp [Value.ownBlock] at e1
    subst e1
    rw [hg] at hh; injection hh with hh; injection hh with _ ht
    exact he ht.symm
theorem own_in {w : World} {lo e n g : Nat} {v : Value} {xs : List Value} (h : w.ownsRow lo e 1 v n xs) (hg : v.ownBlock = some g) : g < w.heap.size := by
  rcases h.2 with ⟨rfl, _⟩ | ⟨g', cap, cur, rfl, _, hh, _⟩
  · simp [Value.ownBlock] at hg
  · simp [Value.ownBlock] at hg
    subst hg
    exact (Array.getElem?_eq_some_iff.1 hh).1
/-- one row more -/
theorem grow_rows {wr w2 W w3 : World} {lo i co L : Nat} {Ao : Option Addr} {ws : List Value} {D : List (List Int)} {v2 v3 : Value} {x : List Int}
    (HN : wr.ownsRow lo 24 1 (.slice Ao i co) i ws) (HO : OwR wr lo wr.heap.size Ao i co ws D) (hlo : lo ≤ wr.heap.size) (hb2 : Below wr.heap.size wr w2) (hrow : w2.ownsRow wr.heap.size 3 1 v2 L (cI x)) (hx : L ≤ 1048576)
    (hW : Below w2.heap.size w2 W) (hown : w3.ownsRow lo 24 1 v3 (i + 1) (ws ++ [v2])) (hg : W.grownBy w3 (Value.ownBlock (.slice Ao i co))) :
    ∃ A3 c3, v3 = .slice A3 (i + 1) c3 ∧ w3.ownsRow lo 24 1 (.slice A3 (i + 1) c3) (i + 1) (ws ++ [v2]) ∧ OwR w3 lo w3.heap.size A3 (i + 1) c3 (ws ++ [v2]) (D ++ [x]) := by
  obtain ⟨A3, c3, rfl, ho3⟩ := Ow.of_own hown
  obtain ⟨h1, h2, h3, h4⟩ := HO
  have hlw : ws.length = i := by have := h1.1; omega
  have hz2 := hb2.size
  have hzW := hW.size
  have hz3 : w2.heap.size ≤ w3.heap.size := Nat.le_trans hzW hg.size
  -- a row of ints stays what it was
  have keep : ∀ {l h' : Nat} {u : Value} {y : List Int}, OwIntS w2 l h' u y → h' ≤ w2.heap.size → OwIntS w3 l h' u y := by
    intro l h' u y hu hh
    by_cases hy : y = []
    · subst hy; exact hu.empty _ _ _
    · obtain ⟨g, hg1, hg2, hgb, ht, cs, hcs⟩ := hu.tight hy
      have hne : Value.ownBlock (.slice Ao i co) ≠ some g := by
        intro e
        have hgw := own_in HN e
        exact own_apart HN (by decide) (by rw [← hb2.block g hgw]; exact hcs) e
      have hgk : w3.heap[g]? = w2.heap[g]? := by
        rw [hg.block g (by omega) (fun e => hne e.symm), hW.block g (by omega)]
      obtain ⟨hs, A, n, c, rfl, r⟩ := hu
      refine ⟨hs, A, n, c, rfl, r.1, r.2.1, ?_⟩
      rcases r.2.2 with r0 | ⟨g2, cs2, hA, q1, q2, q3, q4⟩
      · exact .inl r0
      · have : g2 = g := by rw [hA] at hgb; simpa [Value.ownBlock] using hgb
        subst this
        exact .inr ⟨g2, cs2, hA, q1, q2, by rw [hgk]; exact q3, q4⟩
  have hv2 : OwIntS w2 wr.heap.size w2.heap.size v2 x := own_done rfl hrow hx
  have gv : ∀ k, (ws ++ [v2]).getD k undef = if k < i then ws.getD k undef else if k = i then v2 else undef := by intro k; rw [getD_snoc, hlw]
  have gd : ∀ k, (D ++ [x]).getD k [] = if k < i then D.getD k [] else if k = i then x else [] := by intro k; rw [getD_snoc, h2]
  refine ⟨A3, c3, rfl, hown, ho3, by simp [h2], fun k hk => ?_, fun j k hj hk hjk hxj hxk => ?_⟩
  · rw [gv, gd]
    by_cases hki : k < i
    · rw [if_pos hki, if_pos hki]
      exact (keep ((h3 k hki).below hb2 (Nat.le_refl _)) hz2).widen (Nat.le_refl _) (by omega)
    · have : k = i := by omega
      subst this
      rw [if_neg hki, if_neg hki, if_pos rfl, if_pos rfl]
      exact (keep hv2 (Nat.le_refl _)).widen hlo hz3
  · rw [gd] at hxj hxk
    rw [gv, gv]
    by_cases hji : j < i
    · rw [if_pos hji] at hxj
      rw [if_pos hji]
      by_cases hki : k < i
      · rw [if_pos hki] at hxk
        rw [if_pos hki]
        exact h4 j k hji hki hjk hxj hxk
      · have : k = i := by omega
        subst this
        rw [if_neg hki, if_pos rfl] at hxk
        rw [if_neg hki, if_pos rfl]
        obtain ⟨g, _, a2, b2, _⟩ := (h3 j hji).tight hxj
        obtain ⟨g', a1, _, b1, _⟩ := hv2.tight hxk
        rw [b1, b2]; intro e; injection e with e; omega
    · have : j = i := by omega
      subst this
      rw [if_neg hji, if_pos rfl] at hxj
      rw [if_neg hji, if_pos rfl]
      have hki : k < j := by omega
      rw [if_pos hki] at hxk
      rw [if_pos hki]
      obtain ⟨g, _, a2, b2, _⟩ := (h3 k hki).tight hxk
      obtain ⟨g', a1, _, b1, _⟩ := hv2.tight hxj
      rw [b1, b2]; intro e; injection e with e; omega

theorem below_drew {B : Nat} {w w' : World} (h : Below B w w') : Below B w w'.drew := ⟨h.os, h.tape, h.output, h.size, h.block⟩
theorem hid_size {w : World} {g g' : Nat} {o : Obj} (e : g' = g) (h : w.heap[g']? = some o) : w.heap[g]? = some o := e ▸ h
theorem own_to {w w' : World} {base e n : Nat} {v : Value} {xs : List Value} (h : w.ownsRow base e 1 v n xs) (hb : Below w.heap.size w w') : w'.ownsRow base e 1 v n xs := ownsRow_below h hb
section
variable {ops : Array Oper} {o : Oper} {a : Act} {K : Act → World → Prop} {Q : Exit → Act → World → Prop} {E : Prop} {W wr : World}
/-- append([]int{}, x...) -/
theorem step_lit (hgd : o.guard = none) (s x : Operand)
    (ho : o.op = .call { callee := .builtin .append, args := #[s, x], argTypes := #[24, 24] })
    {lo B m c : Nat} {A : Option Addr} {zs : List Int} (hs : a.eval s = .slice (some ⟨B, 0, none⟩) 0 0) (hx : a.eval x = .slice A m c) (hB : wr.heap.size ≤ B) (hlit : W.heap[B]? = some (.cells #[] 3 (0, 0)))
    (hr : Rd wr lo 1 A m (cI zs)) (hlo : lo ≤ wr.heap.size) (hbel : Below wr.heap.size wr W) (hm : m ≤ 1000)
    (h : ∀ v' w', Hid (w'.ownsRow wr.heap.size 3 1 v' m (cI zs)) → Hid (Below wr.heap.size wr w') → Hid (∀ (g : Nat) (u : Value), W.heap[g]? = some (Obj.cells #[u] 3 (0, 0)) → w'.heap[g]? = some (Obj.cells #[u] 3 (0, 0))) → K (a.put o.dst v') w') :
    if Region.wanted o (yielded ops a.tmps) = true then Oper.wp Try.prog o a W K Q else E := by
  refine step_append_rd hgd s x _ ho wr.heap.size 3 _ 1 8 Try.underlying24 info_int rfl (by decide) _ 0 [] hs (own_lit0 hB hlit) _ _ m c (cI zs) hx (hr.below (hbel.mono hlo)) (cI_one _) (by unfold maxLen; omega) (by omega) hbel.size ?_
  intro v1 w1 hown hg _
  refine h v1 w1 (Lib.hid (by simpa using hown)) (Lib.hid (below_grown hbel hg (own_block (own_lit0 (e := 3) (size := 1) hB hlit)) hbel.size)) (Lib.hid fun g u hu => ?_)
  rw [hg.block g (Array.getElem?_eq_some_iff.1 hu).1 ?_]
  · exact hu
  · intro e
    simp [Value.ownBlock] at e
    subst e
    rw [hlit] at hu; simp at hu
/-- append(v, q) -/
theorem step_lit2 {w1 : World} (hgd : o.guard = none) (s x : Operand)
    (ho : o.op = .call { callee := .builtin .append, args := #[s, x], argTypes := #[24, 24] })
    {g m : Nat} {zs : List Int} {v : Value} {q : Int} (hs : a.eval s = v) (hx : a.eval x = .slice (some ⟨g, 0, none⟩) 1 1) (hown : w1.ownsRow wr.heap.size 3 1 v m (cI zs)) (hb1 : Below wr.heap.size wr w1) (hW : Below w1.heap.size w1 W)
    (hl : W.heap[g]? = some (.cells #[.int .i64 q] 3 (0, 0))) (hm : m ≤ 1000)
    (h : ∀ A' c' w', Hid (w'.ownsRow wr.heap.size 3 1 (.slice A' (m + 1) c') (m + 1) (cI (zs ++ [q]))) → Hid (Below wr.heap.size wr w') → K (a.put o.dst (.slice A' (m + 1) c')) w') :
    if Region.wanted o (yielded ops a.tmps) = true then Oper.wp Try.prog o a W K Q else E := by
  have hb2 : Below wr.heap.size wr W := hb1.trans (hW.mono hb1.size)
  refine step_append_rd hgd s x _ ho wr.heap.size 3 _ 1 8 Try.underlying24 info_int rfl (by decide) v m (cI zs) hs (own_to hown hW) _ _ 1 1 (cI [q]) hx (lit_at hl) (cI_one _) (by unfold maxLen; omega) (by omega) hb2.size ?_
  intro v1 w1 hown' hg _
  obtain ⟨A1, c1, rfl, _⟩ := Ow.of_own hown'
  exact h A1 c1 w1 (Lib.hid (by rw [cI_append]; exact hown')) (Lib.hid (below_grown hb2 hg (own_block hown) hb2.size))
end
end Go.Proofs.Ytbmjepmlalfpgaa

/- Chapter 4: SharesScale in the model. -/
namespace Go.Proofs.Ytbmjepmlalfpgaa
open Go.RowKit
set_option maxRecDepth 100000

def sclP (ps : List (Int × Int)) (b : Int) (k : Nat) : List (Int × Int) := (List.range k).map fun i => (px ps i, py ps i * b % 113)
theorem sclP_succ (ps : List (Int × Int)) (b : Int) (k : Nat) : sclP ps b (k + 1) = sclP ps b k ++ [(px ps k, py ps k * b % 113)] := by simp [sclP, List.range_succ]
theorem sclP_length (ps : List (Int × Int)) (b : Int) (k : Nat) : (sclP ps b k).length = k := by simp [sclP]
def R_SharesScale_1 (d : List (Int × Int)) (b : Int) : Bool := numK d d.length && numB b
def R_SharesScale_0 (d : List (Int × Int)) (b : Int) : List (Int × Int) := if R_SharesScale_1 d b = true then sclP d b d.length else []
theorem cP_append (ps qs : List (Int × Int)) : cP (ps ++ qs) = cP ps ++ cP qs := by simp [cP]
theorem lit_pt_at {w : World} {B e : Nat} {u v : Value} (h : w.heap[B]? = some (.cells #[u, v] e (0, 0))) : Rd w (B + 1) 2 (some ⟨B, 0, none⟩) 1 [u, v] :=
  ⟨rfl, fun _ => ⟨_, rfl, Nat.lt_succ_self _, fun j x hx => by
    have hj : j < 2 := by have := (List.getElem?_eq_some_iff.1 hx).1; simpa using this
    rw [show (⟨B, 0, none⟩ : Addr).add j = ⟨B, 0 + j, none⟩ from addr_add B 0 j, Nat.zero_add, cell_of_row w B j _ _ _ h]
    simpa using hx⟩⟩
theorem done_pts {w1 : World} {B k : Nat} {v : Value} {ys : List (Int × Int)} (h : w1.ownsRow B 96 2 v k (cP ys)) (hs : k ≤ 1048576) : OwPointS w1 B w1.heap.size v ys := by
  obtain ⟨A, c, rfl, ho⟩ := Ow.of_own h
  exact ⟨by have := ho.plen; omega, A, _, c, rfl, ho⟩
section
variable {ops : Array Oper} {o : Oper} {a : Act} {K : Act → World → Prop} {Q : Exit → Act → World → Prop} {E : Prop} {W wr w : World}
/-- append(out, Point) -/
theorem step_pt (hgd : o.guard = none) (s x : Operand)
    (ho : o.op = .call { callee := .builtin .append, args := #[s, x], argTypes := #[37, 37] })
    {g k co : Nat} {A : Option Addr} {ps : List (Int × Int)} {p q : Int} (hs : a.eval s = .slice A k co) (hx : a.eval x = .slice (some ⟨g, 0, none⟩) 1 1)
    (HO : wr.ownsRow w.heap.size 96 2 (.slice A k co) k (cP ps)) (HB : Below w.heap.size w wr) (hW : Below wr.heap.size wr W)
    (hl : W.heap[g]? = some (.cells #[.int .i64 p, .int .i64 q] 96 (0, 0))) (hk : k ≤ 1048576)
    (h : ∀ A3 c3 w3, Hid (w3.ownsRow w.heap.size 96 2 (.slice A3 (k + 1) c3) (k + 1) (cP (ps ++ [(p, q)]))) → Hid (Below w.heap.size w w3) → K (a.put o.dst (.slice A3 (k + 1) c3)) w3) :
    if Region.wanted o (yielded ops a.tmps) = true then Oper.wp Try.prog o a W K Q else E := by
  have hz := HB.size
  have hb4 : Below w.heap.size w W := HB.trans (hW.mono hz)
  refine step_append_rd hgd s x _ ho w.heap.size 96 _ 2 16 Try.underlying37 info_pt rfl (by decide) (.slice A k co) k (cP ps) hs (ownsRow_below HO hW) _ _ 1 1 (cP [(p, q)]) hx (lit_pt_at hl) (cP_one _) (by unfold maxLen; omega) (by omega) hb4.size ?_
  intro v3 w3 hown' hg _
  obtain ⟨A3, c3, rfl, h1⟩ := Ow.of_own hown'
  exact h A3 c3 w3 (Lib.hid (by rw [cP_append]; exact hown')) (Lib.hid (below_grown hb4 hg (own_block HO) hb4.size))
end

end Go.Proofs.Ytbmjepmlalfpgaa

/- Chapter 4: the program's closures and its iterator over shares. -/
namespace Go.Proofs.Ytbmjepmlalfpgaa
open Go.RowKit Go.Shelf
theorem i_shares (cnt : Nat) (fn : Fn) (bs lb : Array Value) (w : World) :
    Calls Try.prog 113 #[.int .i64 cnt, .func fn bs lb] w fun e w' => e = .returned (.func (.func 119) #[] #[.pointer (some ⟨w.heap.size, 0, none⟩), .pointer (some ⟨w.heap.size + 1, 0, none⟩)]) ∧ w' = (w.alloc (.cells #[.int .i64 cnt] 3)).alloc (.cells #[.func fn bs lb] 133) := by
  go_enter Try.func113, Try.ntmps113
  go_wp2
  go_ret
  exact ⟨rfl, rfl⟩

/-- what a round keeps -/
def KpS (n₀ Bs : Nat) (sv : Value) (W W' : World) : Prop := Below n₀ W W' ∧ (Boxed W Bs 133 sv → Boxed W' Bs 133 sv)
theorem KpS_t {n₀ Bs : Nat} {sv : Value} {A B C : World} (h : KpS n₀ Bs sv A B) (k : KpS n₀ Bs sv B C) : KpS n₀ Bs sv A C := ⟨h.1.trans k.1, fun x => k.2 (h.2 x)⟩
theorem KpS_b {n₀ Bs : Nat} {sv : Value} {w : World} (hn : n₀ ≤ w.heap.size) (W : World) (l : Nat) (o o' : Obj) (hl : w.heap.size ≤ l) (h : W.heap[l]? = some o) (hc : o.isCells = false) (hw : o.isWalk = false) : KpS n₀ Bs sv W (W.putObj l o') :=
  ⟨belowK_b hn W l o o' hl h hc hw, fun hb => by
    by_cases e : Bs = l
    · subst e; rw [show W.heap[Bs]? = _ from hb] at h; cases h; cases hc
    · exact (World.putObj_heap_other (fun e' => e e')).trans hb⟩
def uptoF (f : Nat → Int × Int) (k : Nat) : List (Int × Int) := (List.range k).map f
theorem uptoF_succ (f : Nat → Int × Int) (k : Nat) : uptoF f (k + 1) = uptoF f k ++ [f k] := by simp [uptoF, List.range_succ]
theorem uptoF_length (f : Nat → Int × Int) (k : Nat) : (uptoF f k).length = k := by simp [uptoF]
theorem grown_of_below {w w' : World} (h : Below w.heap.size w w') : w.grownBy w' none := ⟨h.os, h.tape, h.output, h.size, fun k hk _ => h.block k hk⟩
def encP (p : Int × Int) : Array Value := #[.agg #[.int .i64 p.1, .int .i64 p.2]]
end Go.Proofs.Ytbmjepmlalfpgaa

/- Chapter 4: the iterator and what lists it, over SharesScale's closure. -/
namespace Go.Proofs.Ytbmjepmlalfpgaa
open Go.RowKit Go.Shelf
end Go.Proofs.Ytbmjepmlalfpgaa

/- Chapter 4: the list of what an iterator over shares gives, over SharesScale's closure. -/
namespace Go.Proofs.Ytbmjepmlalfpgaa
open Go.RowKit Go.Shelf
set_option maxRecDepth 100000
attribute [local go_sem] Oper.semAt_some

theorem run_make0 {P : Program} {t e : TypeId} {z : Value} {bytes size : Nat} (ht : P.underlying t = some (.slice e)) (hi : (P.info? e).map (fun i => (i.zero, i.size, i.bytes)) = some (some z, size, bytes))
    (n : Nat) (hb : bytes * n ≤ 281474976710656) (hn : n ≤ 9223372036854775807) (w : World) :
    (Instr.makeSlice t (.int .i64 0) (.int .i64 (n : Int))).run P w = .ok (.slice (some ⟨w.heap.size, 0, none⟩) 0 n) (w.alloc (.cells (madeCells z.cells (n * size)) e)) := by
  obtain ⟨i, hi, hz0, hz1, hz2⟩ := info_parts hi
  have hb' : (i.bytes : Int) * (n : Int) ≤ 281474976710656 := by
    have h : ((i.bytes * n : Nat) : Int) ≤ 281474976710656 := by rw [hz2]; omega
    rwa [Int.natCast_mul] at h
  have hr := run_make (P := P) w t e i z ht hi hz0 .i64 .i64 0 n (by omega) (by omega) hb' (by omega)
  simp only [Int.toNat_natCast, hz1] at hr
  exact hr
theorem own_make0 (w : World) (cs : Array Value) (e size n : Nat) (hs : cs.size = n * size) (hn : n ≤ maxLen) : (w.alloc (.cells cs e)).ownsRow w.heap.size e size (.slice (some ⟨w.heap.size, 0, none⟩) 0 n) 0 [] :=
  ⟨by simp, .inr ⟨w.heap.size, n, cs, rfl, Nat.le_refl _, heap_alloc_new _ _, Nat.zero_le _, hn, hs, by simp⟩⟩
theorem cell_two_new (w : World) (x y : Value) (t : TypeId) : ∀ j u, [x, y][j]? = some u → (w.alloc (.cells #[x, y] t)).cell? ((⟨w.heap.size, 0, none⟩ : Addr).add j) = some u := by
  intro j u hj
  rw [addr_add, Nat.zero_add, World.cell?_alloc_new]
  simpa using hj
theorem madeCells_size (z : Array Value) (n : Nat) : (madeCells z n).size = n := by simp [madeCells]

end Go.Proofs.Ytbmjepmlalfpgaa

/- Chapter 8 in the program: gate by gate. -/
namespace Go.Proofs.Ytbmjepmlalfpgaa
open Go.RowKit
set_option maxRecDepth 100000

theorem own_val {w1 : World} {B k : Nat} {v : Value} {ys : List Int} (h : w1.ownsRow B 3 1 v k (cI ys)) : ∃ A c, v = .slice A k c ∧ Ow w1 B w1.heap.size 3 1 A k c (cI ys) := by
  obtain ⟨A, c, rfl, ho⟩ := Ow.of_own h
  exact ⟨A, c, rfl, ho⟩

set_option maxHeartbeats 8000000 in
theorem i_gateByGate (F : FuncId) (caps : Array Value) (f : Int × Int × Int → List Int → Int) (Ag : Option Addr) (ng cg : Nat) (gs : List (Int × Int × Int)) (w : World) (hg : Rd w w.heap.size 1 Ag ng (gs.map gI)) (hn : ng ≤ 16)
    (eg : ∀ args W, (callFunc F args).run Try.prog W = .ok (.enter F args) W)
    (hS : ∀ W k A c, Below w.heap.size w W → k < ng → Rd W W.heap.size 1 A k (cI (tellK f gs k)) → Calls Try.prog F (#[gI (gt gs k), .slice A k c] ++ caps) W fun e W' => e = .returned (.int .i64 (f (gt gs k) (tellK f gs k))) ∧ Below W.heap.size W W') :
    Calls Try.prog 60 #[.slice Ag ng cg, .func (.func F) #[] caps] w fun e w' => ∃ A c, e = .returned (.slice A ng c) ∧ OwIntS w' w.heap.size w'.heap.size (.slice A ng c) (tellK f gs ng) ∧ Below w.heap.size w w' := by
  have hl : gs.length = ng := by have := hg.1; rw [List.length_map] at this; omega
  have HL := Lib.hid hl
  have HG := Lib.hid hg
  have HS := Lib.hid hS
  clear hg hS hl
  have hmk := fun W => run_make0 (P := Try.prog) Try.underlying24 info_int ng (by omega) (by omega) W
  have hcap : (madeCells (Value.int .i64 0).cells (ng * 1)).size = ng * 1 := madeCells_size _ _
  obtain ⟨cs, hcs⟩ : ∃ cs, madeCells (Value.int .i64 0).cells (ng * 1) = cs := ⟨_, rfl⟩
  rw [hcs] at hmk hcap
  clear hcs
  have HO0 : Hid ((w.alloc (.cells cs 3)).ownsRow w.heap.size 3 1 (.slice (some ⟨w.heap.size, 0, none⟩) 0 ng) 0 (cI [])) := Lib.hid (own_make0 w cs 3 1 ng hcap (by unfold maxLen; omega))
  have HB0 : Hid (Below w.heap.size w (w.alloc (.cells cs 3))) := Lib.hid ((Below.refl _ _).alloc (Nat.le_refl _) _)
  clear hcap
  have c0 : (0 : Int) ≤ (ng : Int) := by omega
  go_enter Try.func60, Try.ntmps60
  go_wp2
  go_loopw [5, 13] (fun o i wr => ∃ k : Nat, k ≤ ng ∧ i = .int .i64 k ∧ Hid (wr.ownsRow w.heap.size 3 1 o k (cI (tellK f gs k))) ∧ Hid (Below w.heap.size w wr)) (fun _ i _ => ng - (intOf i).toNat)
  case atStart => exact ⟨0, Nat.zero_le _, rfl, HO0, HB0⟩
  case round =>
    clear HO0 HB0
    obtain ⟨k, hk, rfl, HO, HB⟩ := hrel
    obtain ⟨A, c, rfl, ho⟩ := own_val HO.out
    have HRD := Lib.hid ho.rd
    clear ho
    by_cases hlt : k < ng
    · obtain ⟨a, hA, hab, hc⟩ := HG.out.2 (by omega)
      have hck0 := hc k (gI (gt gs k)) (by have := HL.out; simp [gt, show k < gs.length by omega])
      have hck := (HB.out.cell (p := a.add k) (by rw [add_block]; exact hab)).trans hck0
      have i0 : (0 : Int) ≤ (k : Int) := by omega
      have i1 : (k : Int) < (ng : Int) := by omega
      clear hc hck0
      subst hA
      go_wp2_with fail
      refine (HS.out wr k A c HB.out hlt HRD.out).mono ?_
      rintro e w2 ⟨rfl, hb⟩
      generalize hfv : f (gt gs k) (tellK f gs k) = fv
      have HE : Hid (tellK f gs (k + 1) = tellK f gs k ++ [fv]) := Lib.hid (by rw [tellK, hfv])
      have HB2 : Hid (Below w.heap.size w w2) := Lib.hid (HB.out.trans (hb.mono HB.out.size))
      have HO2 := Lib.hid (ownsRow_below HO.out hb)
      have HOa := Lib.hid (HO2.out.alloc (.cells #[.int .i64 fv] 3))
      have HBa := Lib.hid (HB2.out.alloc HB2.out.size (.cells #[.int .i64 fv] 3))
      have HRa : Hid (Rd (w2.alloc (.cells #[.int .i64 fv] 3)) (w2.heap.size + 1) 1 (some ⟨w2.heap.size, 0, none⟩) 1 (cI [fv])) := Lib.hid (by
        have := (Ow.new w2 #[.int .i64 fv] 3 1 1 rfl).rd; exact this)
      clear HO HB hb HRD hfv
      go_wp2_with (at_builtin; refine wpList_append_rd rfl (.tmp 17) (.tmp 22) _ rfl w.heap.size 3 _ 1 8 Try.underlying24 info_int rfl (by decide) (.slice A k c) k (cI (tellK f gs k)) rfl HOa.out _ _ 1 1 (cI [fv]) rfl HRa.out (cI_one _) (by unfold maxLen; omega) (by omega) (by have := HBa.out.size; omega) ?_; intro v1 w3 hown hg hat; have HOWN := Lib.hid hown; have HG2 := Lib.hid hg; clear hown hg hat)
      have HO3 : Hid (w3.ownsRow w.heap.size 3 1 v1 (k + 1) (cI (tellK f gs (k + 1)))) := Lib.hid (by
        rw [HE.out, cI_append]; exact HOWN.out)
      have HB3 : Hid (Below w.heap.size w w3) := Lib.hid (below_append HBa.out HG2.out (own_block HOa.out) HBa.out.size)
      clear HOWN HG2 HOa HRa HBa
      go_roundw
      case rel => exact ⟨k + 1, by omega, by go_num, HO3, HB3⟩
      case measure => simp [intOf] <;> omega
    · have hkn : k = ng := by omega
      subst hkn
      have HOF : Hid (OwIntS wr w.heap.size wr.heap.size (.slice A k c) (tellK f gs k)) := Lib.hid (own_done rfl HO.out (by omega))
      clear HO
      go_wp2
      go_ret
      exact ⟨_, _, rfl, HOF.out, HB.out⟩
end Go.Proofs.Ytbmjepmlalfpgaa

/- Chapter 8 in the program: what is told of a gate. -/
namespace Go.Proofs.Ytbmjepmlalfpgaa
open Go.RowKit
set_option maxRecDepth 100000

theorem ta_input_input (v0 : Value) (W : World) : (Instr.typeAssert (.iface 128 (.agg #[v0])) 91 128 true).run Try.prog W = .ok (.tuple #[.agg #[v0], .bool true]) W := by kernel_rfl
theorem ta_input_const (v0 : Value) (W : World) : (Instr.typeAssert (.iface 128 (.agg #[v0])) 91 139 true).run Try.prog W = .ok (.tuple #[.agg #[.int .i64 0], .bool false]) W := by kernel_rfl
theorem ta_input_linear (v0 : Value) (W : World) : (Instr.typeAssert (.iface 128 (.agg #[v0])) 91 124 true).run Try.prog W = .ok (.tuple #[.agg #[.int .i64 0, .int .i64 0, .int .i64 0], .bool false]) W := by kernel_rfl
theorem ta_input_product (v0 : Value) (W : World) : (Instr.typeAssert (.iface 128 (.agg #[v0])) 91 126 true).run Try.prog W = .ok (.tuple #[.agg #[.int .i64 0, .int .i64 0], .bool false]) W := by kernel_rfl
theorem ta_const_input (v0 : Value) (W : World) : (Instr.typeAssert (.iface 139 (.agg #[v0])) 91 128 true).run Try.prog W = .ok (.tuple #[.agg #[.int .i64 0], .bool false]) W := by kernel_rfl
theorem ta_const_const (v0 : Value) (W : World) : (Instr.typeAssert (.iface 139 (.agg #[v0])) 91 139 true).run Try.prog W = .ok (.tuple #[.agg #[v0], .bool true]) W := by kernel_rfl
theorem ta_const_linear (v0 : Value) (W : World) : (Instr.typeAssert (.iface 139 (.agg #[v0])) 91 124 true).run Try.prog W = .ok (.tuple #[.agg #[.int .i64 0, .int .i64 0, .int .i64 0], .bool false]) W := by kernel_rfl
theorem ta_const_product (v0 : Value) (W : World) : (Instr.typeAssert (.iface 139 (.agg #[v0])) 91 126 true).run Try.prog W = .ok (.tuple #[.agg #[.int .i64 0, .int .i64 0], .bool false]) W := by kernel_rfl
theorem ta_linear_input (v0 v1 v2 : Value) (W : World) : (Instr.typeAssert (.iface 124 (.agg #[v0, v1, v2])) 91 128 true).run Try.prog W = .ok (.tuple #[.agg #[.int .i64 0], .bool false]) W := by kernel_rfl
theorem ta_linear_const (v0 v1 v2 : Value) (W : World) : (Instr.typeAssert (.iface 124 (.agg #[v0, v1, v2])) 91 139 true).run Try.prog W = .ok (.tuple #[.agg #[.int .i64 0], .bool false]) W := by kernel_rfl
theorem ta_linear_linear (v0 v1 v2 : Value) (W : World) : (Instr.typeAssert (.iface 124 (.agg #[v0, v1, v2])) 91 124 true).run Try.prog W = .ok (.tuple #[.agg #[v0, v1, v2], .bool true]) W := by kernel_rfl
theorem ta_linear_product (v0 v1 v2 : Value) (W : World) : (Instr.typeAssert (.iface 124 (.agg #[v0, v1, v2])) 91 126 true).run Try.prog W = .ok (.tuple #[.agg #[.int .i64 0, .int .i64 0], .bool false]) W := by kernel_rfl
theorem ta_product_input (v0 v1 : Value) (W : World) : (Instr.typeAssert (.iface 126 (.agg #[v0, v1])) 91 128 true).run Try.prog W = .ok (.tuple #[.agg #[.int .i64 0], .bool false]) W := by kernel_rfl
theorem ta_product_const (v0 v1 : Value) (W : World) : (Instr.typeAssert (.iface 126 (.agg #[v0, v1])) 91 139 true).run Try.prog W = .ok (.tuple #[.agg #[.int .i64 0], .bool false]) W := by kernel_rfl
theorem ta_product_linear (v0 v1 : Value) (W : World) : (Instr.typeAssert (.iface 126 (.agg #[v0, v1])) 91 124 true).run Try.prog W = .ok (.tuple #[.agg #[.int .i64 0, .int .i64 0, .int .i64 0], .bool false]) W := by kernel_rfl
theorem ta_product_product (v0 v1 : Value) (W : World) : (Instr.typeAssert (.iface 126 (.agg #[v0, v1])) 91 126 true).run Try.prog W = .ok (.tuple #[.agg #[v0, v1], .bool true]) W := by kernel_rfl

set_option maxHeartbeats 8000000 in
theorem i_depthOf (g : Int × Int × Int) (m t : Int) (A : Option Addr) (n c : Nat) (vs : List Int) (w : World) (h : Rd w w.heap.size 1 A n (cI vs)) (hg : gateB g t m = true) (ht : t = n) (_hn : n ≤ 16) (hv : ∀ j : Nat, 0 ≤ vs.getD j 0 ∧ vs.getD j 0 ≤ 16) :
    Calls Try.prog 61 #[gI g, .slice A n c] w fun e w' => e = .returned (.int .i64 (depG g vs)) ∧ Below w.heap.size w w' := by
  obtain ⟨x, y, u⟩ := g
  have H := Lib.hid h
  have HV := Lib.hid hv
  have hkd := gateB_kind hg
  simp only at hkd
  subst ht
  clear h hg hv
  rcases hkd with ⟨rfl, y0, y1, rfl⟩ | ⟨rfl, y0, y1, rfl⟩ | ⟨hk3, y0, y1, u0, u1⟩
  · have HE : Hid (depG (0, y, 0) vs = 0) := Lib.hid (by simp [depG])
    simp only [gI]
    have t0 := fun W => ta_input_linear (.int .i64 y) W
    have t1 := fun W => ta_input_product (.int .i64 y) W
    go_enter Try.func61, Try.ntmps61
    go_wp2
    go_ret
    exact ⟨ret_i HE.out.symm, Below.refl _ _⟩
  · have HE : Hid (depG (1, y, 0) vs = 0) := Lib.hid (by simp [depG])
    simp only [gI]
    have t0 := fun W => ta_const_linear (.int .i64 y) W
    have t1 := fun W => ta_const_product (.int .i64 y) W
    go_enter Try.func61, Try.ntmps61
    go_wp2
    go_ret
    exact ⟨ret_i HE.out.symm, Below.refl _ _⟩
  · obtain ⟨m1, rfl⟩ : ∃ m : Nat, y = m := ⟨y.toNat, by omega⟩
    obtain ⟨m2, rfl⟩ : ∃ m : Nat, u = m := ⟨u.toNat, by omega⟩
    obtain ⟨a, p, hA, hab, hp, HP⟩ := H.out.intAt (k := m1) (by omega)
    obtain ⟨a', q, hA', _, hq, HQ⟩ := H.out.intAt (k := m2) (by omega)
    subst hA
    injection hA' with hA'; subst hA'
    have p0 := (HV.out m1).1
    have p1 := (HV.out m1).2
    have q0 := (HV.out m2).1
    have q1 := (HV.out m2).2
    rw [← HP.out] at p0 p1
    rw [← HQ.out] at q0 q1
    have j0 : (m1 : Int) < (n : Int) := by omega
    have j1 : (m2 : Int) < (n : Int) := by omega
    have i0 : (0 : Int) ≤ (m1 : Int) := by omega
    have i1 : (0 : Int) ≤ (m2 : Int) := by omega
    rcases hk3 with rfl | rfl | rfl
    · have HE : Hid ((if p < q then q else p) = depG (2, (m1 : Int), (m2 : Int)) vs) := Lib.hid (by rw [if_max, HP.out, HQ.out]; simp [depG])
      simp only [gI]
      have t0 := fun W => ta_linear_linear (.int .i64 m1) (.int .i64 m2) (.int .i64 1) W
      have HB0 : Hid (Below w.heap.size w (w.alloc (.cells #[.int .i64 m1, .int .i64 m2, .int .i64 1] 124))) := Lib.hid ((Below.refl _ _).alloc (Nat.le_refl _) _)
      have HX : Hid (Bx (w.alloc (.cells #[.int .i64 m1, .int .i64 m2, .int .i64 1] 124)) w.heap.size #[.int .i64 m1, .int .i64 m2, .int .i64 1] 124) := Lib.hid (Bx.new _ _ _)
      have hp2 := (HB0.out.cell (p := a.add m1) (by rw [add_block]; exact hab)).trans hp
      have hq2 := (HB0.out.cell (p := a.add m2) (by rw [add_block]; exact hab)).trans hq
      go_enter Try.func61, Try.ntmps61
      go_wp2
      obtain ⟨wo, hwo⟩ : ∃ wo, Hid (w.alloc (.cells #[.int .i64 m1, .int .i64 m2, .int .i64 1] 124) = wo) := ⟨_, Lib.hid rfl⟩
      rw [hwo.out] at hp2 hq2 HB0 HX ⊢
      clear hwo hp hq
      have g0 : wo.cell? ⟨w.heap.size, 0, none⟩ = some (.int .i64 m1) := HX.out.cell 0
      have g1 : wo.cell? ⟨w.heap.size, 1, none⟩ = some (.int .i64 m2) := HX.out.cell 1
      have g2 : wo.cell? ⟨w.heap.size, 2, none⟩ = some (.int .i64 1) := HX.out.cell 2
      go_still_tail 12, (by kernel_rfl)
      change wpList _ _ _ _ _ wo.drew
      go_wp2
      all_goals (
        go_ret
        first
          | exact ⟨ret_i (by have := HE.out; rw [if_pos (by omega)] at this; exact this), HB0.out.drew⟩
          | exact ⟨ret_i (by have := HE.out; rw [if_neg (by omega)] at this; exact this), HB0.out.drew⟩)
    · have HE : Hid ((if p < q then q else p) = depG (3, (m1 : Int), (m2 : Int)) vs) := Lib.hid (by rw [if_max, HP.out, HQ.out]; simp [depG])
      simp only [gI]
      have t0 := fun W => ta_linear_linear (.int .i64 m1) (.int .i64 m2) (.int .i64 112) W
      have HB0 : Hid (Below w.heap.size w (w.alloc (.cells #[.int .i64 m1, .int .i64 m2, .int .i64 112] 124))) := Lib.hid ((Below.refl _ _).alloc (Nat.le_refl _) _)
      have HX : Hid (Bx (w.alloc (.cells #[.int .i64 m1, .int .i64 m2, .int .i64 112] 124)) w.heap.size #[.int .i64 m1, .int .i64 m2, .int .i64 112] 124) := Lib.hid (Bx.new _ _ _)
      have hp2 := (HB0.out.cell (p := a.add m1) (by rw [add_block]; exact hab)).trans hp
      have hq2 := (HB0.out.cell (p := a.add m2) (by rw [add_block]; exact hab)).trans hq
      go_enter Try.func61, Try.ntmps61
      go_wp2
      obtain ⟨wo, hwo⟩ : ∃ wo, Hid (w.alloc (.cells #[.int .i64 m1, .int .i64 m2, .int .i64 112] 124) = wo) := ⟨_, Lib.hid rfl⟩
      rw [hwo.out] at hp2 hq2 HB0 HX ⊢
      clear hwo hp hq
      have g0 : wo.cell? ⟨w.heap.size, 0, none⟩ = some (.int .i64 m1) := HX.out.cell 0
      have g1 : wo.cell? ⟨w.heap.size, 1, none⟩ = some (.int .i64 m2) := HX.out.cell 1
      have g2 : wo.cell? ⟨w.heap.size, 2, none⟩ = some (.int .i64 112) := HX.out.cell 2
      go_still_tail 12, (by kernel_rfl)
      change wpList _ _ _ _ _ wo.drew
      go_wp2
      all_goals (
        go_ret
        first
          | exact ⟨ret_i (by have := HE.out; rw [if_pos (by omega)] at this; exact this), HB0.out.drew⟩
          | exact ⟨ret_i (by have := HE.out; rw [if_neg (by omega)] at this; exact this), HB0.out.drew⟩)
    · have HE : Hid ((if p < q then q else p) + 1 = depG (4, (m1 : Int), (m2 : Int)) vs) := Lib.hid (by rw [if_max, HP.out, HQ.out]; simp [depG])
      have im : IntKind.i64.wrap (p + 1) = p + 1 := IntWalk.i64_in _ (by omega)
      have im2 : IntKind.i64.wrap (q + 1) = q + 1 := IntWalk.i64_in _ (by omega)
      simp only [gI]
      have t0 := fun W => ta_product_linear (.int .i64 m1) (.int .i64 m2) W
      have t1 := fun W => ta_product_product (.int .i64 m1) (.int .i64 m2) W
      have HB0 : Hid (Below w.heap.size w (w.alloc (.cells #[.int .i64 m1, .int .i64 m2] 126))) := Lib.hid ((Below.refl _ _).alloc (Nat.le_refl _) _)
      have HX : Hid (Bx (w.alloc (.cells #[.int .i64 m1, .int .i64 m2] 126)) w.heap.size #[.int .i64 m1, .int .i64 m2] 126) := Lib.hid (Bx.new _ _ _)
      have hp2 := (HB0.out.cell (p := a.add m1) (by rw [add_block]; exact hab)).trans hp
      have hq2 := (HB0.out.cell (p := a.add m2) (by rw [add_block]; exact hab)).trans hq
      go_enter Try.func61, Try.ntmps61
      go_wp2
      obtain ⟨wo, hwo⟩ : ∃ wo, Hid (w.alloc (.cells #[.int .i64 m1, .int .i64 m2] 126) = wo) := ⟨_, Lib.hid rfl⟩
      rw [hwo.out] at hp2 hq2 HB0 HX ⊢
      clear hwo hp hq
      have g0 : wo.cell? ⟨w.heap.size, 0, none⟩ = some (.int .i64 m1) := HX.out.cell 0
      have g1 : wo.cell? ⟨w.heap.size, 1, none⟩ = some (.int .i64 m2) := HX.out.cell 1
      go_still_tail 12, (by kernel_rfl)
      change wpList _ _ _ _ _ wo.drew
      go_wp2
      all_goals (
        go_ret
        first
          | exact ⟨ret_i (by have := HE.out; rw [if_pos (by omega)] at this; exact this), HB0.out.drew⟩
          | exact ⟨ret_i (by have := HE.out; rw [if_neg (by omega)] at this; exact this), HB0.out.drew⟩)

set_option maxHeartbeats 8000000 in
theorem i_degreeOf (g : Int × Int × Int) (m t : Int) (A : Option Addr) (n c : Nat) (vs : List Int) (w : World) (h : Rd w w.heap.size 1 A n (cI vs)) (hg : gateB g t m = true) (ht : t = n) (_hn : n ≤ 16) (hv : ∀ j : Nat, 0 ≤ vs.getD j 0 ∧ vs.getD j 0 ≤ 65536) :
    Calls Try.prog 63 #[gI g, .slice A n c] w fun e w' => e = .returned (.int .i64 (degG g vs)) ∧ Below w.heap.size w w' := by
  obtain ⟨x, y, u⟩ := g
  have H := Lib.hid h
  have HV := Lib.hid hv
  have hkd := gateB_kind hg
  simp only at hkd
  subst ht
  clear h hg hv
  rcases hkd with ⟨rfl, y0, y1, rfl⟩ | ⟨rfl, y0, y1, rfl⟩ | ⟨hk3, y0, y1, u0, u1⟩
  · have HE : Hid (degG (0, y, 0) vs = 1) := Lib.hid (by simp [degG])
    simp only [gI]
    have t0 := fun W => ta_input_input (.int .i64 y) W
    go_enter Try.func63, Try.ntmps63
    go_wp2
    go_ret
    exact ⟨ret_i HE.out.symm, by first | exact Below.refl _ _ | exact (Below.refl _ _).alloc (Nat.le_refl _) _⟩
  · have HE : Hid (degG (1, y, 0) vs = 0) := Lib.hid (by simp [degG])
    simp only [gI]
    have t0 := fun W => ta_const_input (.int .i64 y) W
    have t1 := fun W => ta_const_linear (.int .i64 y) W
    have t2 := fun W => ta_const_product (.int .i64 y) W
    go_enter Try.func63, Try.ntmps63
    go_wp2
    go_ret
    exact ⟨ret_i HE.out.symm, Below.refl _ _⟩
  · obtain ⟨m1, rfl⟩ : ∃ m : Nat, y = m := ⟨y.toNat, by omega⟩
    obtain ⟨m2, rfl⟩ : ∃ m : Nat, u = m := ⟨u.toNat, by omega⟩
    obtain ⟨a, p, hA, hab, hp, HP⟩ := H.out.intAt (k := m1) (by omega)
    obtain ⟨a', q, hA', _, hq, HQ⟩ := H.out.intAt (k := m2) (by omega)
    subst hA
    injection hA' with hA'; subst hA'
    have p0 := (HV.out m1).1
    have p1 := (HV.out m1).2
    have q0 := (HV.out m2).1
    have q1 := (HV.out m2).2
    rw [← HP.out] at p0 p1
    rw [← HQ.out] at q0 q1
    have j0 : (m1 : Int) < (n : Int) := by omega
    have j1 : (m2 : Int) < (n : Int) := by omega
    have i0 : (0 : Int) ≤ (m1 : Int) := by omega
    have i1 : (0 : Int) ≤ (m2 : Int) := by omega
    rcases hk3 with rfl | rfl | rfl
    · have HE : Hid ((if p < q then q else p) = degG (2, (m1 : Int), (m2 : Int)) vs) := Lib.hid (by rw [if_max, HP.out, HQ.out]; simp [degG])
      simp only [gI]
      have t0 := fun W => ta_linear_input (.int .i64 m1) (.int .i64 m2) (.int .i64 1) W
      have t1 := fun W => ta_linear_linear (.int .i64 m1) (.int .i64 m2) (.int .i64 1) W
      have HB0 : Hid (Below w.heap.size w (w.alloc (.cells #[.int .i64 m1, .int .i64 m2, .int .i64 1] 124))) := Lib.hid ((Below.refl _ _).alloc (Nat.le_refl _) _)
      have HX : Hid (Bx (w.alloc (.cells #[.int .i64 m1, .int .i64 m2, .int .i64 1] 124)) w.heap.size #[.int .i64 m1, .int .i64 m2, .int .i64 1] 124) := Lib.hid (Bx.new _ _ _)
      have hp2 := (HB0.out.cell (p := a.add m1) (by rw [add_block]; exact hab)).trans hp
      have hq2 := (HB0.out.cell (p := a.add m2) (by rw [add_block]; exact hab)).trans hq
      go_enter Try.func63, Try.ntmps63
      go_wp2
      obtain ⟨wo, hwo⟩ : ∃ wo, Hid (w.alloc (.cells #[.int .i64 m1, .int .i64 m2, .int .i64 1] 124) = wo) := ⟨_, Lib.hid rfl⟩
      rw [hwo.out] at hp2 hq2 HB0 HX ⊢
      clear hwo hp hq
      have g0 : wo.cell? ⟨w.heap.size, 0, none⟩ = some (.int .i64 m1) := HX.out.cell 0
      have g1 : wo.cell? ⟨w.heap.size, 1, none⟩ = some (.int .i64 m2) := HX.out.cell 1
      have g2 : wo.cell? ⟨w.heap.size, 2, none⟩ = some (.int .i64 1) := HX.out.cell 2
      go_still_tail 12, (by kernel_rfl)
      change wpList _ _ _ _ _ wo.drew
      go_wp2
      all_goals (
        go_ret
        first
          | exact ⟨ret_i (by have := HE.out; rw [if_pos (by omega)] at this; exact this), HB0.out.drew⟩
          | exact ⟨ret_i (by have := HE.out; rw [if_neg (by omega)] at this; exact this), HB0.out.drew⟩)
    · have HE : Hid ((if p < q then q else p) = degG (3, (m1 : Int), (m2 : Int)) vs) := Lib.hid (by rw [if_max, HP.out, HQ.out]; simp [degG])
      simp only [gI]
      have t0 := fun W => ta_linear_input (.int .i64 m1) (.int .i64 m2) (.int .i64 112) W
      have t1 := fun W => ta_linear_linear (.int .i64 m1) (.int .i64 m2) (.int .i64 112) W
      have HB0 : Hid (Below w.heap.size w (w.alloc (.cells #[.int .i64 m1, .int .i64 m2, .int .i64 112] 124))) := Lib.hid ((Below.refl _ _).alloc (Nat.le_refl _) _)
      have HX : Hid (Bx (w.alloc (.cells #[.int .i64 m1, .int .i64 m2, .int .i64 112] 124)) w.heap.size #[.int .i64 m1, .int .i64 m2, .int .i64 112] 124) := Lib.hid (Bx.new _ _ _)
      have hp2 := (HB0.out.cell (p := a.add m1) (by rw [add_block]; exact hab)).trans hp
      have hq2 := (HB0.out.cell (p := a.add m2) (by rw [add_block]; exact hab)).trans hq
      go_enter Try.func63, Try.ntmps63
      go_wp2
      obtain ⟨wo, hwo⟩ : ∃ wo, Hid (w.alloc (.cells #[.int .i64 m1, .int .i64 m2, .int .i64 112] 124) = wo) := ⟨_, Lib.hid rfl⟩
      rw [hwo.out] at hp2 hq2 HB0 HX ⊢
      clear hwo hp hq
      have g0 : wo.cell? ⟨w.heap.size, 0, none⟩ = some (.int .i64 m1) := HX.out.cell 0
      have g1 : wo.cell? ⟨w.heap.size, 1, none⟩ = some (.int .i64 m2) := HX.out.cell 1
      have g2 : wo.cell? ⟨w.heap.size, 2, none⟩ = some (.int .i64 112) := HX.out.cell 2
      go_still_tail 12, (by kernel_rfl)
      change wpList _ _ _ _ _ wo.drew
      go_wp2
      all_goals (
        go_ret
        first
          | exact ⟨ret_i (by have := HE.out; rw [if_pos (by omega)] at this; exact this), HB0.out.drew⟩
          | exact ⟨ret_i (by have := HE.out; rw [if_neg (by omega)] at this; exact this), HB0.out.drew⟩)
    · have HE : Hid (p + q = degG (4, (m1 : Int), (m2 : Int)) vs) := Lib.hid (by rw [HP.out, HQ.out]; simp [degG])
      have im : IntKind.i64.wrap (p + q) = p + q := IntWalk.i64_in _ (by omega)
      simp only [gI]
      have t0 := fun W => ta_product_input (.int .i64 m1) (.int .i64 m2) W
      have t1 := fun W => ta_product_linear (.int .i64 m1) (.int .i64 m2) W
      have t2 := fun W => ta_product_product (.int .i64 m1) (.int .i64 m2) W
      have HB0 : Hid (Below w.heap.size w (w.alloc (.cells #[.int .i64 m1, .int .i64 m2] 126))) := Lib.hid ((Below.refl _ _).alloc (Nat.le_refl _) _)
      have HX : Hid (Bx (w.alloc (.cells #[.int .i64 m1, .int .i64 m2] 126)) w.heap.size #[.int .i64 m1, .int .i64 m2] 126) := Lib.hid (Bx.new _ _ _)
      have hp2 := (HB0.out.cell (p := a.add m1) (by rw [add_block]; exact hab)).trans hp
      have hq2 := (HB0.out.cell (p := a.add m2) (by rw [add_block]; exact hab)).trans hq
      go_enter Try.func63, Try.ntmps63
      go_wp2
      obtain ⟨wo, hwo⟩ : ∃ wo, Hid (w.alloc (.cells #[.int .i64 m1, .int .i64 m2] 126) = wo) := ⟨_, Lib.hid rfl⟩
      rw [hwo.out] at hp2 hq2 HB0 HX ⊢
      clear hwo hp hq
      have g0 : wo.cell? ⟨w.heap.size, 0, none⟩ = some (.int .i64 m1) := HX.out.cell 0
      have g1 : wo.cell? ⟨w.heap.size, 1, none⟩ = some (.int .i64 m2) := HX.out.cell 1
      go_quiet (fail)
      go_wp2
      go_ret
      exact ⟨ret_i HE.out, below_drewN HB0.out _⟩

set_option maxHeartbeats 8000000 in
theorem i_valueOf (g : Int × Int × Int) (m t : Int) (A3 : Option Addr) (n3 c3 : Nat) (ins : List Int) (A : Option Addr) (n c : Nat) (vs : List Int) (w : World) (h : Rd w w.heap.size 1 A n (cI vs)) (h3 : Rd w w.heap.size 1 A3 n3 (cI ins)) (hm : m = n3) (hg : gateB g t m = true) (ht : t = n) (_hn : n ≤ 16) (hv : ∀ j : Nat, 0 ≤ vs.getD j 0 ∧ vs.getD j 0 ≤ 112) :
    Calls Try.prog 84 #[gI g, .slice A3 n3 c3, .slice A n c] w fun e w' => e = .returned (.int .i64 (valG ins g vs)) ∧ Below w.heap.size w w' := by
  obtain ⟨x, y, u⟩ := g
  have H := Lib.hid h
  have HV := Lib.hid hv
  have H3 := Lib.hid h3
  clear h3
  have hkd := gateB_kind hg
  simp only at hkd
  subst ht
  clear h hg hv
  rcases hkd with ⟨rfl, y0, y1, rfl⟩ | ⟨rfl, y0, y1, rfl⟩ | ⟨hk3, y0, y1, u0, u1⟩
  · obtain ⟨k, rfl⟩ : ∃ k : Nat, y = k := ⟨y.toNat, by omega⟩
    obtain ⟨a3, v, hA3, hab3, hv3, HV3⟩ := H3.out.intAt (k := k) (by omega)
    subst hA3
    have HE : Hid (v = valG ins (0, (k : Int), 0) vs) := Lib.hid (by rw [HV3.out]; simp [valG])
    have HB0 : Hid (Below w.heap.size w (w.alloc (.cells #[.int .i64 k] 128))) := Lib.hid ((Below.refl _ _).alloc (Nat.le_refl _) _)
    have hv4 := (HB0.out.cell (p := a3.add k) (by rw [add_block]; exact hab3)).trans hv3
    have j0 : (k : Int) < (n3 : Int) := by omega
    have i0 : (0 : Int) ≤ (k : Int) := by omega
    simp only [gI]
    have t0 := fun W => ta_input_input (.int .i64 k) W
    go_enter Try.func84, Try.ntmps84
    go_wp2
    go_ret
    exact ⟨ret_i HE.out, HB0.out⟩
  · have HE : Hid (y = valG ins (1, y, 0) vs) := Lib.hid (by simp [valG])
    simp only [gI]
    have t0 := fun W => ta_const_input (.int .i64 y) W
    have t1 := fun W => ta_const_const (.int .i64 y) W
    go_enter Try.func84, Try.ntmps84
    go_wp2
    go_ret
    exact ⟨ret_i HE.out, (Below.refl _ _).alloc (Nat.le_refl _) _⟩
  · obtain ⟨m1, rfl⟩ : ∃ m : Nat, y = m := ⟨y.toNat, by omega⟩
    obtain ⟨m2, rfl⟩ : ∃ m : Nat, u = m := ⟨u.toNat, by omega⟩
    obtain ⟨a, p, hA, hab, hp, HP⟩ := H.out.intAt (k := m1) (by omega)
    obtain ⟨a', q, hA', _, hq, HQ⟩ := H.out.intAt (k := m2) (by omega)
    subst hA
    injection hA' with hA'; subst hA'
    have p0 := (HV.out m1).1
    have p1 := (HV.out m1).2
    have q0 := (HV.out m2).1
    have q1 := (HV.out m2).2
    rw [← HP.out] at p0 p1
    rw [← HQ.out] at q0 q1
    have j0 : (m1 : Int) < (n : Int) := by omega
    have j1 : (m2 : Int) < (n : Int) := by omega
    have i0 : (0 : Int) ≤ (m1 : Int) := by omega
    have i1 : (0 : Int) ≤ (m2 : Int) := by omega
    rcases hk3 with rfl | rfl | rfl
    · have HE : Hid ((p + q % 113) % 113 = valG ins (2, (m1 : Int), (m2 : Int)) vs) := Lib.hid (by rw [HP.out, HQ.out]; simp only [valG]; first | (simp; done) | (simp; omega))
      have s0 : 0 ≤ q % 113 := by omega
      have s1 : q % 113 ≤ 112 := by omega
      simp only [gI]
      have t0 := fun W => ta_linear_input (.int .i64 m1) (.int .i64 m2) (.int .i64 1) W
      have t1 := fun W => ta_linear_const (.int .i64 m1) (.int .i64 m2) (.int .i64 1) W
      have t2 := fun W => ta_linear_linear (.int .i64 m1) (.int .i64 m2) (.int .i64 1) W
      have HB0 : Hid (Below w.heap.size w (w.alloc (.cells #[.int .i64 m1, .int .i64 m2, .int .i64 1] 124))) := Lib.hid ((Below.refl _ _).alloc (Nat.le_refl _) _)
      have HX : Hid (Bx (w.alloc (.cells #[.int .i64 m1, .int .i64 m2, .int .i64 1] 124)) w.heap.size #[.int .i64 m1, .int .i64 m2, .int .i64 1] 124) := Lib.hid (Bx.new _ _ _)
      have hp2 := (HB0.out.cell (p := a.add m1) (by rw [add_block]; exact hab)).trans hp
      have hq2 := (HB0.out.cell (p := a.add m2) (by rw [add_block]; exact hab)).trans hq
      go_enter Try.func84, Try.ntmps84
      go_wp2
      obtain ⟨wo, hwo⟩ : ∃ wo, Hid (w.alloc (.cells #[.int .i64 m1, .int .i64 m2, .int .i64 1] 124) = wo) := ⟨_, Lib.hid rfl⟩
      rw [hwo.out] at hp2 hq2 HB0 HX ⊢
      clear hwo hp hq
      have g0 : wo.cell? ⟨w.heap.size, 0, none⟩ = some (.int .i64 m1) := HX.out.cell 0
      have g1 : wo.cell? ⟨w.heap.size, 1, none⟩ = some (.int .i64 m2) := HX.out.cell 1
      have g2 : wo.cell? ⟨w.heap.size, 2, none⟩ = some (.int .i64 1) := HX.out.cell 2
      go_quiet ((first
        | (go_at_call 102; exact quiet_drewN (i_times q 1 _ q0 q1 (by omega) (by omega)))
        | (go_at_call 101; exact quiet_drewN (i_plus p _ _ p0 p1 s0 s1))))
      go_wp2
      go_ret
      exact ⟨ret_i HE.out, below_drewN HB0.out _⟩
    · have HE : Hid ((p + q * 112 % 113) % 113 = valG ins (3, (m1 : Int), (m2 : Int)) vs) := Lib.hid (by rw [HP.out, HQ.out]; simp only [valG]; first | (simp; done) | (simp; omega))
      have s0 : 0 ≤ q * 112 % 113 := by omega
      have s1 : q * 112 % 113 ≤ 112 := by omega
      simp only [gI]
      have t0 := fun W => ta_linear_input (.int .i64 m1) (.int .i64 m2) (.int .i64 112) W
      have t1 := fun W => ta_linear_const (.int .i64 m1) (.int .i64 m2) (.int .i64 112) W
      have t2 := fun W => ta_linear_linear (.int .i64 m1) (.int .i64 m2) (.int .i64 112) W
      have HB0 : Hid (Below w.heap.size w (w.alloc (.cells #[.int .i64 m1, .int .i64 m2, .int .i64 112] 124))) := Lib.hid ((Below.refl _ _).alloc (Nat.le_refl _) _)
      have HX : Hid (Bx (w.alloc (.cells #[.int .i64 m1, .int .i64 m2, .int .i64 112] 124)) w.heap.size #[.int .i64 m1, .int .i64 m2, .int .i64 112] 124) := Lib.hid (Bx.new _ _ _)
      have hp2 := (HB0.out.cell (p := a.add m1) (by rw [add_block]; exact hab)).trans hp
      have hq2 := (HB0.out.cell (p := a.add m2) (by rw [add_block]; exact hab)).trans hq
      go_enter Try.func84, Try.ntmps84
      go_wp2
      obtain ⟨wo, hwo⟩ : ∃ wo, Hid (w.alloc (.cells #[.int .i64 m1, .int .i64 m2, .int .i64 112] 124) = wo) := ⟨_, Lib.hid rfl⟩
      rw [hwo.out] at hp2 hq2 HB0 HX ⊢
      clear hwo hp hq
      have g0 : wo.cell? ⟨w.heap.size, 0, none⟩ = some (.int .i64 m1) := HX.out.cell 0
      have g1 : wo.cell? ⟨w.heap.size, 1, none⟩ = some (.int .i64 m2) := HX.out.cell 1
      have g2 : wo.cell? ⟨w.heap.size, 2, none⟩ = some (.int .i64 112) := HX.out.cell 2
      go_quiet ((first
        | (go_at_call 102; exact quiet_drewN (i_times q 112 _ q0 q1 (by omega) (by omega)))
        | (go_at_call 101; exact quiet_drewN (i_plus p _ _ p0 p1 s0 s1))))
      go_wp2
      go_ret
      exact ⟨ret_i HE.out, below_drewN HB0.out _⟩
    · have HE : Hid (p * q % 113 = valG ins (4, (m1 : Int), (m2 : Int)) vs) := Lib.hid (by rw [HP.out, HQ.out]; simp [valG])
      simp only [gI]
      have t0 := fun W => ta_product_input (.int .i64 m1) (.int .i64 m2) W
      have t1 := fun W => ta_product_const (.int .i64 m1) (.int .i64 m2) W
      have t2 := fun W => ta_product_linear (.int .i64 m1) (.int .i64 m2) W
      have t3 := fun W => ta_product_product (.int .i64 m1) (.int .i64 m2) W
      have HB0 : Hid (Below w.heap.size w (w.alloc (.cells #[.int .i64 m1, .int .i64 m2] 126))) := Lib.hid ((Below.refl _ _).alloc (Nat.le_refl _) _)
      have HX : Hid (Bx (w.alloc (.cells #[.int .i64 m1, .int .i64 m2] 126)) w.heap.size #[.int .i64 m1, .int .i64 m2] 126) := Lib.hid (Bx.new _ _ _)
      have hp2 := (HB0.out.cell (p := a.add m1) (by rw [add_block]; exact hab)).trans hp
      have hq2 := (HB0.out.cell (p := a.add m2) (by rw [add_block]; exact hab)).trans hq
      go_enter Try.func84, Try.ntmps84
      go_wp2
      obtain ⟨wo, hwo⟩ : ∃ wo, Hid (w.alloc (.cells #[.int .i64 m1, .int .i64 m2] 126) = wo) := ⟨_, Lib.hid rfl⟩
      rw [hwo.out] at hp2 hq2 HB0 HX ⊢
      clear hwo hp hq
      have g0 : wo.cell? ⟨w.heap.size, 0, none⟩ = some (.int .i64 m1) := HX.out.cell 0
      have g1 : wo.cell? ⟨w.heap.size, 1, none⟩ = some (.int .i64 m2) := HX.out.cell 1
      go_quiet ((first
        | (go_at_call 102; exact quiet_drewN (i_times p q _ p0 p1 q0 q1))))
      go_wp2
      go_ret
      exact ⟨ret_i HE.out, below_drewN HB0.out _⟩
end Go.Proofs.Ytbmjepmlalfpgaa

/- Chapter 8 in the program: at the outputs; the greatest of a list; the closure over inputs. -/
namespace Go.Proofs.Ytbmjepmlalfpgaa
open Go.RowKit
set_option maxRecDepth 100000

theorem out_step (os v : List Int) {k n : Nat} (hk : k < n) : (outK os v k ++ List.replicate (n - k) 0).set k (v.getD (os.getD k 0).toNat 0) = outK os v (k + 1) ++ List.replicate (n - (k + 1)) 0 := by
  have hl := outK_length os v k
  rw [List.set_append_right _ _ (by omega), hl, Nat.sub_self, show n - k = (n - (k + 1)) + 1 by omega, List.replicate_succ, List.set_cons_zero, outK, List.append_assoc, List.singleton_append]

set_option maxHeartbeats 4000000 in
theorem i_atOuts (A1 : Option Addr) (n1 c1 : Nat) (A2 : Option Addr) (n2 c2 : Nat) (A3 : Option Addr) (n3 c3 : Nat) (z : Int) (d2 vs : List Int) (w : World) (h2 : Rd w w.heap.size 1 A2 n2 (cI d2)) (h3 : Rd w w.heap.size 1 A3 n3 (cI vs)) (hn2 : n2 ≤ 16) (ho : outsK d2 n3 n2 = true) :
    Calls Try.prog 59 #[.agg #[.int .i64 z, .slice A1 n1 c1, .slice A2 n2 c2], .slice A3 n3 c3] w fun e w' => ∃ A c, e = .returned (.slice A n2 c) ∧ OwIntS w' w.heap.size w'.heap.size (.slice A n2 c) (outK d2 vs n2) ∧ Below w.heap.size w w' := by
  have H2 := Lib.hid h2
  have H3 := Lib.hid h3
  have HOK := Lib.hid ho
  clear h2 h3 ho
  have hmk := fun W => run_make1 (P := Try.prog) Try.underlying24 info_int rfl n2 (by omega) (by omega) W
  have HX0 : Hid (Bx ((w.alloc (.cells #[.int .i64 z, .slice A1 n1 c1, .slice A2 n2 c2] 26)).alloc (.cells (Array.replicate n2 (.int .i64 0)) 3)) w.heap.size #[.int .i64 z, .slice A1 n1 c1, .slice A2 n2 c2] 26) := Lib.hid ((Bx.new _ _ _).alloc _)
  have HO0 : Hid (Ow ((w.alloc (.cells #[.int .i64 z, .slice A1 n1 c1, .slice A2 n2 c2] 26)).alloc (.cells (Array.replicate n2 (.int .i64 0)) 3)) (w.heap.size + 1) (w.heap.size + 1 + 1) 3 1 (some ⟨w.heap.size + 1, 0, none⟩) n2 n2 (cI (outK d2 vs 0 ++ List.replicate (n2 - 0) 0))) := Lib.hid (by
    have := Ow.zeros (w.alloc (.cells #[.int .i64 z, .slice A1 n1 c1, .slice A2 n2 c2] 26)) (.int .i64 0) 3 n2
    rw [World.size_alloc, cI_zeros] at this; exact this)
  have HB0 : Hid (Below w.heap.size w ((w.alloc (.cells #[.int .i64 z, .slice A1 n1 c1, .slice A2 n2 c2] 26)).alloc (.cells (Array.replicate n2 (.int .i64 0)) 3))) := Lib.hid (((Below.refl _ _).alloc (Nat.le_refl _) _).alloc (by simp) _)
  have HS0 : Hid (w.heap.size + 1 < ((w.alloc (.cells #[.int .i64 z, .slice A1 n1 c1, .slice A2 n2 c2] 26)).alloc (.cells (Array.replicate n2 (.int .i64 0)) 3)).heap.size) := Lib.hid (by simp)
  have b20 : ((w.alloc (.cells #[.int .i64 z, .slice A1 n1 c1, .slice A2 n2 c2] 26)).alloc (.cells (Array.replicate n2 (.int .i64 0)) 3)).cell? ⟨w.heap.size, 2, none⟩ = some (.slice A2 n2 c2) := HX0.out.cell 2
  go_enter Try.func59, Try.ntmps59
  go_wp2
  go_loopw [15] (fun i wr => ∃ k : Nat, k ≤ n2 ∧ i = .int .i64 k ∧ Hid (Ow wr (w.heap.size + 1) (w.heap.size + 1 + 1) 3 1 (some ⟨w.heap.size + 1, 0, none⟩) n2 n2 (cI (outK d2 vs k ++ List.replicate (n2 - k) 0))) ∧ Hid (Below w.heap.size w wr) ∧ Hid (w.heap.size + 1 < wr.heap.size)) (fun i _ => n2 - (intOf i).toNat)
  case atStart => exact ⟨0, Nat.zero_le _, rfl, HO0, HB0, HS0⟩
  case round =>
    clear HX0 HO0 HB0 HS0 b20
    obtain ⟨k, hk, rfl, HO, HB, HS⟩ := hrel
    by_cases hlt : k < n2
    · obtain ⟨a, x, hA, hab, hx0, HP⟩ := H2.out.intAt hlt
      have hx := (HB.out.cell (p := a.add k) (by rw [add_block]; exact hab)).trans hx0
      obtain ⟨x0, x1⟩ := outsK_at HOK.out hlt
      rw [← HP.out] at x0 x1
      obtain ⟨m, rfl⟩ : ∃ m : Nat, x = m := ⟨x.toNat, by omega⟩
      obtain ⟨a3, v, hA3, hab3, hv3, HV⟩ := H3.out.intAt (k := m) (by omega)
      have hv := (HB.out.cell (p := a3.add m) (by rw [add_block]; exact hab3)).trans hv3
      have i0 : (0 : Int) ≤ (k : Int) := by omega
      have i1 : (k : Int) < (n2 : Int) := by omega
      have i2 : (m : Int) < (n3 : Int) := by omega
      have HE : Hid (v = vs.getD (d2.getD k 0).toNat 0) := Lib.hid (by rw [← HP.out, HV.out]; rfl)
      obtain ⟨v0, hv0⟩ : ∃ v, wr.cell? ⟨w.heap.size + 1, k, none⟩ = some v := ⟨_, HO.out.cellAt (List.getElem?_eq_getElem (by have := HO.out.1; omega))⟩
      have hf := HO.out.free (by omega) k
      have HO2 := Lib.hid (HO.out.set k (.int .i64 v))
      have HET : Hid ((outK d2 vs k ++ List.replicate (n2 - k) 0).set k v = outK d2 vs (k + 1) ++ List.replicate (n2 - (k + 1)) 0) := Lib.hid (by rw [HE.out, out_step d2 vs hlt])
      rw [cI_set, HET.out] at HO2
      have HB2 := Lib.hid (HB.out.setCell (p := ⟨w.heap.size + 1, k, none⟩) (by simp) (.int .i64 v))
      have HS2 : Hid (w.heap.size + 1 < (wr.setCell ⟨w.heap.size + 1, k, none⟩ (.int .i64 v)).heap.size) := Lib.hid (by rw [World.size_setCell]; exact HS.out)
      subst hA; subst hA3
      clear hx0 hv3 HO HB HS HE HET
      go_wp2
      go_roundw
      case rel => exact ⟨k + 1, by omega, by go_num, HO2, HB2, HS2⟩
      case measure => simp [intOf] <;> omega
    · have hkn : k = n2 := by omega
      have HOF : Hid (OwIntS wr w.heap.size wr.heap.size (.slice (some ⟨w.heap.size + 1, 0, none⟩) n2 n2) (outK d2 vs n2)) := Lib.hid (by
        have := HO.out
        rw [hkn, Nat.sub_self, List.replicate_zero, List.append_nil] at this
        exact ⟨by rw [outK_length]; omega, _, _, _, rfl, this.widen (by omega) HS.out⟩)
      clear HO hkn
      go_wp2
      go_ret
      exact ⟨_, _, rfl, HOF.out, HB.out⟩

set_option maxHeartbeats 2000000 in
theorem i_Max (A : Option Addr) (n c : Nat) (vs : List Int) (w : World) (h : Rd w w.heap.size 1 A n (cI vs)) (hn : n ≤ 1048576) (h1 : 1 ≤ n) :
    Calls Try.prog 58 #[.slice A n c] w fun e w' => e = .returned (.int .i64 (topK vs n)) ∧ w = w' := by
  have H := Lib.hid h
  clear h
  obtain ⟨a, x, hA, hab, hx, HP⟩ := H.out.intAt (k := 0) (by omega)
  subst hA
  have ha : a.add 0 = a := by unfold Addr.add; simp
  rw [ha] at hx
  have HT : Hid (x = topK vs 1) := Lib.hid (by rw [HP.out]; simp only [topK]; omega)
  have i0 : ¬ ((n : Int) < 1) := by omega
  have i1 : (0 : Int) < (n : Int) := by omega
  have i2 : 0 < n := by omega
  clear ha
  go_enter Try.func58, Try.ntmps58
  go_wp2
  go_loop [3, 4] (fun o i => ∃ (k : Nat) (M : Int), 1 ≤ k ∧ k ≤ n ∧ i = .int .i64 k ∧ o = .int .i64 M ∧ Hid (M = topK vs k)) (fun _ i => n - (intOf i).toNat)
  case atStart => exact ⟨1, x, Nat.le_refl _, h1, rfl, rfl, HT⟩
  case round =>
    clear HT
    obtain ⟨k, M, hk1, hk, rfl, rfl, HM⟩ := hrel
    by_cases hlt : k < n
    · obtain ⟨a', v, hA, hab', hv, HV⟩ := H.out.intAt hlt
      injection hA with hA; subst hA
      have j0 : (0 : Int) ≤ (k : Int) := by omega
      have j1 : (k : Int) < (n : Int) := by omega
      have HE : Hid ((if M < v then v else M) = topK vs (k + 1)) := Lib.hid (by rw [if_max, HM.out, HV.out]; rfl)
      clear HM
      go_wp2
      go_round
      case rel => exact ⟨k + 1, _, by omega, by omega, by go_num, rfl, HE⟩
      case measure => simp [intOf] <;> omega
    · have hkn : k = n := by omega
      have HF : Hid (M = topK vs n) := Lib.hid (by rw [← hkn]; exact HM.out)
      clear HM hkn
      go_wp2
      go_ret
      exact ⟨ret_i HF.out, rfl⟩

set_option maxHeartbeats 1000000 in
theorem i_values1 (g : Int × Int × Int) (m t : Int) (A3 : Option Addr) (n3 c3 : Nat) (ins : List Int) (A : Option Addr) (n c b : Nat) (vs : List Int) (w : World) (h : Rd w w.heap.size 1 A n (cI vs)) (h3 : Rd w w.heap.size 1 A3 n3 (cI ins)) (hm : m = n3) (hg : gateB g t m = true) (ht : t = n) (hn : n ≤ 16) (hv : ∀ j : Nat, 0 ≤ vs.getD j 0 ∧ vs.getD j 0 ≤ 112) (hb : w.cell? ⟨b, 0, none⟩ = some (.slice A3 n3 c3)) :
    Calls Try.prog 83 #[gI g, .slice A n c, .pointer (some ⟨b, 0, none⟩)] w fun e w' => e = .returned (.int .i64 (valG ins g vs)) ∧ Below w.heap.size w w' := by
  have HC := Lib.hid (i_valueOf g m t A3 n3 c3 ins A n c vs w h h3 hm hg ht hn hv)
  generalize gI g = gv at HC ⊢
  clear h h3 hm hg ht hv
  go_enter Try.func83, Try.ntmps83
  go_wp2_with fail
  refine HC.out.mono ?_
  rintro e w2 ⟨rfl, hbl⟩
  go_wp2
  go_ret
  exact ⟨rfl, hbl⟩
end Go.Proofs.Ytbmjepmlalfpgaa

/- Chapter 8 in the program, as the laws meet it. -/
namespace Go.Proofs.Ytbmjepmlalfpgaa
open Go.RowKit
set_option maxRecDepth 100000

theorem eg_values1 (args : Array Value) (W : World) : (callFunc 83 args).run Try.prog W = .ok (.enter 83 args) W := by kernel_rfl
theorem eg_depthOf (args : Array Value) (W : World) : (callFunc 61 args).run Try.prog W = .ok (.enter 61 args) W := by kernel_rfl
theorem eg_degreeOf (args : Array Value) (W : World) : (callFunc 63 args).run Try.prog W = .ok (.enter 63 args) W := by kernel_rfl
theorem OwGI.rdv {w : World} {lo hi : Nat} {v : Value} {d : List (Int × Int × Int)} (h : OwGI w lo hi v d) : ∃ A n c, v = .slice A n c ∧ n = d.length ∧ Rd w hi 1 A n (d.map gI) := by
  obtain ⟨A, n, c, rfl, r⟩ := h
  exact ⟨A, n, c, rfl, by have := r.1; rw [List.length_map] at this; omega, r.rd⟩
/-- a box of three cells and one of one cell, over a call that only makes -/
theorem upd31 {w0 W w' : World} {b b' e e' : Nat} {x y z u : Value} (hb : Below b w0 W) (hx : Bx W b #[x, y, z] e) (hy : Bx W b' #[u] e') (h : Below W.heap.size W w') :
    Below b w0 w' ∧ Bx w' b #[x, y, z] e ∧ Bx w' b' #[u] e' ∧ w'.cell? ⟨b, 0, none⟩ = some x ∧ w'.cell? ⟨b, 1, none⟩ = some y ∧ w'.cell? ⟨b, 2, none⟩ = some z ∧ w'.cell? ⟨b', 0, none⟩ = some u :=
  have hx2 := hx.below h hx.lt
  have hy2 := hy.below h hy.lt
  ⟨hb.trans (h.mono (Nat.le_of_lt hx.lt)), hx2, hy2, hx2.cell 0, hx2.cell 1, hx2.cell 2, hy2.cell 0⟩

set_option maxHeartbeats 8000000 in
theorem X_i_CircuitValues (v v' : Value) (d : Int × List (Int × Int × Int) × List Int) (ins : List Int) (w : World) (h : RdCircuit w w.heap.size v d) (h' : RdIntS w w.heap.size v' ins) (hs : szCircuit d ≤ 1048576) (hs' : szIntS ins ≤ 1048576) :
    Calls Try.prog 36 #[v, v'] w fun e w' => ∃ g, e = .returned (.tuple #[g, .bool (fitsB d ins)]) ∧ OwIntS w' w.heap.size w'.heap.size g (R_CircuitValues_0 d ins) ∧ Below w.heap.size w w' := by
  obtain ⟨A1, n1, c1, A2, n2, c2, rfl, h1, h2⟩ := h
  obtain ⟨A3, n3, c3, rfl, _, h3⟩ := h'
  have m1 : n1 ≤ 1048576 := by have := szC1 hs; have := h1.n.2; omega
  have m2 : n2 ≤ 1048576 := by have := szC2 hs; have := h2.n.2; omega
  have m3 : n3 ≤ 1048576 := by have := h3.len; unfold szIntS at hs'; omega
  have l1 := Lib.hid h1.n.2
  have l3 := Lib.hid h3.len
  have H1 := Lib.hid h1.n.1
  have H2 := Lib.hid h2.n.1
  have H3 := Lib.hid h3
  clear h1 h2 h3 hs hs'
  obtain ⟨z, d1, d2⟩ := d
  obtain ⟨W0, hW0⟩ : ∃ W, Hid ((w.alloc (.cells #[.int .i64 z, .slice A1 n1 c1, .slice A2 n2 c2] 26)).alloc (.cells #[.slice A3 n3 c3] 24) = W) := ⟨_, Lib.hid rfl⟩
  have HX0 : Hid (Bx W0 w.heap.size #[.int .i64 z, .slice A1 n1 c1, .slice A2 n2 c2] 26) := Lib.hid (by rw [← hW0.out]; exact (Bx.new _ _ _).alloc _)
  have HY0 : Hid (Bx W0 (w.heap.size + 1) #[.slice A3 n3 c3] 24) := Lib.hid (by rw [← hW0.out]; have := Bx.new (w.alloc (.cells #[.int .i64 z, .slice A1 n1 c1, .slice A2 n2 c2] 26)) #[.slice A3 n3 c3] 24; rw [World.size_alloc] at this; exact this)
  have HB0 : Hid (Below w.heap.size w W0) := Lib.hid (by rw [← hW0.out]; exact ((Below.refl _ _).alloc (Nat.le_refl _) _).alloc (by simp) _)
  have no : ∀ {w' : World}, fitsB (z, d1, d2) ins = false → Below w.heap.size w w' → ∃ g, Ending.returned (.tuple #[.slice none 0 0, .bool false]) = .returned (.tuple #[g, .bool (fitsB (z, d1, d2) ins)]) ∧ OwIntS w' w.heap.size w'.heap.size g (R_CircuitValues_0 (z, d1, d2) ins) ∧ Below w.heap.size w w' :=
    fun h hb => ⟨.slice none 0 0, by rw [h], by rw [R_CircuitValues_0, h]; exact OwIntS.nil_ _ _ _, hb⟩
  go_enter Try.func36, Try.ntmps36
  go_wp2_with fail
  rw [hW0.out]
  clear hW0
  refine (i_gatesOf A1 n1 c1 A2 n2 c2 z d1 d2 _ ((H1.out.below HB0.out).more HB0.out.size) ((H2.out.below HB0.out).more HB0.out.size) m1 m2).mono ?_
  rintro e w2 ⟨gv, rfl, hno, hyes, hb⟩
  have HX1 := Lib.hid (HX0.out.below hb HX0.out.lt)
  have HY1 := Lib.hid (HY0.out.below hb HY0.out.lt)
  have HB1 : Hid (Below w.heap.size w w2) := Lib.hid (HB0.out.trans (hb.mono HB0.out.size))
  have hz0 := HY1.out.lt
  clear hb
  cases eb : circB (z, d1, d2)
  · have HF : Hid (fitsB (z, d1, d2) ins = false) := Lib.hid (by simp [fitsB, eb])
    clear hno hyes
    go_wp2
    go_ret2
    exact no HF.out HB1.out
  have HO1 := Lib.hid ((hyes.out eb).rdv)
  have HEB := Lib.hid eb
  clear hno hyes eb
  have b0 : w2.cell? ⟨w.heap.size, 0, none⟩ = some (.int .i64 z) := HX1.out.cell 0
  have b1 : w2.cell? ⟨w.heap.size, 1, none⟩ = some (.slice A1 n1 c1) := HX1.out.cell 1
  have b2 : w2.cell? ⟨w.heap.size, 2, none⟩ = some (.slice A2 n2 c2) := HX1.out.cell 2
  have b3 : w2.cell? ⟨w.heap.size + 1, 0, none⟩ = some (.slice A3 n3 c3) := HY1.out.cell 0
  go_wp2_with fail
  refine (i_insFit A1 n1 c1 A2 n2 c2 A3 n3 c3 z ins _ ((H3.out.below HB1.out).more HB1.out.size) m3).mono ?_
  rintro e w3 ⟨rfl, hb⟩
  have HX2 := Lib.hid (HX1.out.below hb HX1.out.lt)
  have HY2 := Lib.hid (HY1.out.below hb HY1.out.lt)
  have HB2 : Hid (Below w.heap.size w w3) := Lib.hid (HB1.out.trans (hb.mono HB1.out.size))
  obtain ⟨Ag, ng, cg, rfl, hlg, hrg⟩ := HO1.out
  have HRG := Lib.hid ((hrg.below hb).more hb.size)
  have HLG := Lib.hid hlg
  have hz1 := HY2.out.lt
  clear hb b0 b1 b2 b3 HX1 HY1 HX0 HY0 HO1 hlg hrg
  cases ei : (decide ((ins.length : Int) = z) && numsB ins)
  · have HF : Hid (fitsB (z, d1, d2) ins = false) := Lib.hid (by simp only [fitsB, ei, Bool.and_false])
    go_wp2
    go_ret2
    exact no HF.out HB2.out
  have HF : Hid (fitsB (z, d1, d2) ins = true) := Lib.hid (by simp only [fitsB, ei, HEB.out, Bool.and_true])
  obtain ⟨f1, f2, f3⟩ := fits_iff HF.out
  obtain ⟨e0, e1, e2, e3, e4⟩ := circB_iff f1
  simp only at e0 e1 e2 e3 e4 f2
  have q1 : ng ≤ 16 := by have := HLG.out; omega
  have HG : Hid (gatesK d1 z ng = true) := Lib.hid (by rw [HLG.out]; exact e3)
  have HI := Lib.hid f3
  have HZ : Hid (z = n3) := Lib.hid (by have := l3.out; omega)
  have HR : Hid (R_CircuitValues_0 (z, d1, d2) ins = tellK (valG ins) d1 ng) := Lib.hid (by simp [R_CircuitValues_0, HF.out, HLG.out])
  have b3 : w3.cell? ⟨w.heap.size + 1, 0, none⟩ = some (.slice A3 n3 c3) := HY2.out.cell 0
  clear e0 e1 e2 e3 e4 f1 f2 f3 ei
  go_wp2_with fail
  refine (i_gateByGate 83 #[.pointer (some ⟨w.heap.size + 1, 0, none⟩)] (valG ins) Ag ng cg d1 w3 HRG.out q1 eg_values1 ?_).mono ?_
  · intro W k A c hbw hk hr
    exact i_values1 (gt d1 k) z k A3 n3 c3 ins A k c (w.heap.size + 1) (tellK (valG ins) d1 k) W hr ((H3.out.below (HB2.out.trans (hbw.mono HB2.out.size))).more (Nat.le_trans HB2.out.size hbw.size)) HZ.out (gatesK_at HG.out hk) rfl (by omega) (val_bd HG.out HI.out k (by omega)) ((hbw.cell (p := ⟨w.heap.size + 1, 0, none⟩) HY2.out.lt).trans (HY2.out.cell 0))
  rintro e w4 ⟨A, c, rfl, ho, hb⟩
  have HO := Lib.hid (ho.widen (lo' := w.heap.size) HB2.out.size (Nat.le_refl _))
  have HB3 : Hid (Below w.heap.size w w4) := Lib.hid (HB2.out.trans (hb.mono HB2.out.size))
  clear ho hb b3
  go_wp2
  go_ret2
  exact ⟨_, ret_vb HF.out.symm, by rw [HR.out]; exact HO.out, HB3.out⟩

set_option maxHeartbeats 8000000 in
theorem X_i_CircuitRun (v v' : Value) (d : Int × List (Int × Int × Int) × List Int) (ins : List Int) (w : World) (h : RdCircuit w w.heap.size v d) (h' : RdIntS w w.heap.size v' ins) (hs : szCircuit d ≤ 1048576) (hs' : szIntS ins ≤ 1048576) :
    Calls Try.prog 42 #[v, v'] w fun e w' => ∃ g, e = .returned (.tuple #[g, .bool (fitsB d ins)]) ∧ OwIntS w' w.heap.size w'.heap.size g (R_CircuitRun_0 d ins) ∧ Below w.heap.size w w' := by
  obtain ⟨A1, n1, c1, A2, n2, c2, rfl, h1, h2⟩ := h
  have l1 := Lib.hid h1.n.2
  have l2 := Lib.hid h2.n.2
  have H1 := Lib.hid h1
  have H2 := Lib.hid h2
  obtain ⟨A3, n3, c3, rfl, h30, h3⟩ := h'
  have H3 := Lib.hid h3
  clear h1 h2 h3
  obtain ⟨z, d1, d2⟩ := d
  have HX0 : Hid (Bx (w.alloc (.cells #[.int .i64 z, .slice A1 n1 c1, .slice A2 n2 c2] 26)) w.heap.size #[.int .i64 z, .slice A1 n1 c1, .slice A2 n2 c2] 26) := Lib.hid (Bx.new _ _ _)
  have HB0 : Hid (Below w.heap.size w (w.alloc (.cells #[.int .i64 z, .slice A1 n1 c1, .slice A2 n2 c2] 26))) := Lib.hid ((Below.refl _ _).alloc (Nat.le_refl _) _)
  go_enter Try.func42, Try.ntmps42
  go_wp2_with fail
  refine (X_i_CircuitValues _ _ (z, d1, d2) ins _ ⟨A1, n1, c1, A2, n2, c2, rfl, (H1.out.below HB0.out).more HB0.out.size, (H2.out.below HB0.out).more HB0.out.size⟩ ⟨A3, n3, c3, rfl, h30, (H3.out.below HB0.out).more HB0.out.size⟩ hs hs').mono ?_
  rintro e w2 ⟨gv, rfl, ho, hb⟩
  have HX1 := Lib.hid (HX0.out.below hb HX0.out.lt)
  have HB1 : Hid (Below w.heap.size w w2) := Lib.hid (HB0.out.trans (hb.mono HB0.out.size))
  have HO1 := Lib.hid ho
  obtain ⟨A, n, c, rfl, hn, _, _⟩ := HO1.out.open
  have HN := Lib.hid hn
  have b0 : w2.cell? ⟨w.heap.size, 0, none⟩ = some (.int .i64 z) := HX1.out.cell 0
  have b1 : w2.cell? ⟨w.heap.size, 1, none⟩ = some (.slice A1 n1 c1) := HX1.out.cell 1
  have b2 : w2.cell? ⟨w.heap.size, 2, none⟩ = some (.slice A2 n2 c2) := HX1.out.cell 2
  clear hb ho hn HX0 HB0
  cases ef : fitsB (z, d1, d2) ins
  · have HF := Lib.hid ef
    go_wp2
    go_ret2
    exact ⟨_, ret_vb HF.out.symm, by rw [R_CircuitRun_0, HF.out]; exact OwIntS.nil_ _ _ _, HB1.out⟩
  have HF := Lib.hid ef
  obtain ⟨f1, f2, f3⟩ := fits_iff ef
  obtain ⟨e0, e1, e2, e3, e4⟩ := circB_iff f1
  simp only at e0 e1 e2 e3 e4 f2
  have q2 : n2 ≤ 16 := by have := l2.out; omega
  have hnn : n = n1 := by have h1 := HN.out; have h2 := l1.out; simp only [R_CircuitValues_0, ef, if_true, tellK_length] at h1; omega
  subst hnn
  have HVS : Hid (R_CircuitValues_0 (z, d1, d2) ins = tellK (valG ins) d1 n) := Lib.hid (by simp [R_CircuitValues_0, ef, l1.out])
  have HR : Hid (R_CircuitRun_0 (z, d1, d2) ins = outK d2 (tellK (valG ins) d1 n) n2) := Lib.hid (by simp [R_CircuitRun_0, ef, l1.out, l2.out])
  have G4 : Hid (outsK d2 n n2 = true) := Lib.hid (by have e1 := l1.out; have e2 := l2.out; rw [e1, e2]; exact e4)
  have HRD : Hid (Rd w2 w2.heap.size 1 A n (cI (tellK (valG ins) d1 n))) := Lib.hid (by have := HO1.out.rdw; rw [HVS.out] at this; exact this)
  clear e0 e1 e2 e3 e4 f1 f2 f3 ef HN
  go_wp2_with fail
  refine (i_atOuts A1 n c1 A2 n2 c2 A n c z d2 (tellK (valG ins) d1 n) _ ((H2.out.n.1.below HB1.out).more HB1.out.size) HRD.out q2 G4.out).mono ?_
  rintro e w3 ⟨A4, c4, rfl, ho, hb⟩
  have HO := Lib.hid (ho.widen (lo' := w.heap.size) HB1.out.size (Nat.le_refl _))
  have HB2 : Hid (Below w.heap.size w w3) := Lib.hid (HB1.out.trans (hb.mono HB1.out.size))
  clear ho hb b0 b1 b2
  go_wp2
  go_ret2
  exact ⟨_, ret_vb HF.out.symm, by rw [HR.out]; exact HO.out, HB2.out⟩

set_option maxHeartbeats 8000000 in
theorem X_i_CircuitDepth (v : Value) (d : Int × List (Int × Int × Int) × List Int) (w : World) (h : RdCircuit w w.heap.size v d) (hs : szCircuit d ≤ 1048576) :
    Calls Try.prog 16 #[v] w fun e w' => e = .returned (.int .i64 (depV d)) ∧ Below w.heap.size w w' := by
  obtain ⟨A1, n1, c1, A2, n2, c2, rfl, h1, h2⟩ := h
  have m1 : n1 ≤ 1048576 := by have := szC1 hs; have := h1.n.2; omega
  have m2 : n2 ≤ 1048576 := by have := szC2 hs; have := h2.n.2; omega
  have l1 := Lib.hid h1.n.2
  have l2 := Lib.hid h2.n.2
  have H1 := Lib.hid h1.n.1
  have H2 := Lib.hid h2.n.1
  clear h1 h2 hs
  obtain ⟨z, d1, d2⟩ := d
  have HX0 : Hid (Bx (w.alloc (.cells #[.int .i64 z, .slice A1 n1 c1, .slice A2 n2 c2] 26)) w.heap.size #[.int .i64 z, .slice A1 n1 c1, .slice A2 n2 c2] 26) := Lib.hid (Bx.new _ _ _)
  have HB0 : Hid (Below w.heap.size w (w.alloc (.cells #[.int .i64 z, .slice A1 n1 c1, .slice A2 n2 c2] 26))) := Lib.hid ((Below.refl _ _).alloc (Nat.le_refl _) _)
  go_enter Try.func16, Try.ntmps16
  go_wp2_with fail
  refine (i_gatesOf A1 n1 c1 A2 n2 c2 z d1 d2 _ ((H1.out.below HB0.out).more HB0.out.size) ((H2.out.below HB0.out).more HB0.out.size) m1 m2).mono ?_
  rintro e w2 ⟨gv, rfl, hno, hyes, hb⟩
  have HX1 := Lib.hid (HX0.out.below hb HX0.out.lt)
  have HB1 : Hid (Below w.heap.size w w2) := Lib.hid (HB0.out.trans (hb.mono HB0.out.size))
  have hz0 := HX1.out.lt
  clear hb HX0 HB0
  cases eb : circB (z, d1, d2)
  · have HF : Hid (depV (z, d1, d2) = -1) := Lib.hid (by simp [depV, eb])
    clear hno hyes
    go_wp2
    go_ret
    exact ⟨ret_i HF.out.symm, HB1.out⟩
  obtain ⟨Ag, ng, cg, rfl, hlg, hrg⟩ := (hyes.out eb).rdv
  have HLG := Lib.hid hlg
  have HRG := Lib.hid hrg
  clear hno hyes hrg
  obtain ⟨e0, e1, e2, e3, e4⟩ := circB_iff eb
  simp only at e0 e1 e2 e3 e4
  obtain rfl : ng = n1 := by have := l1.out; omega
  have q1 : ng ≤ 16 := by omega
  have q2 : n2 ≤ 16 := by have := l2.out; omega
  have q3 : 1 ≤ n2 := by have := l2.out; omega
  have HG : Hid (gatesK d1 z ng = true) := Lib.hid (by rw [HLG.out]; exact e3)
  have G4 : Hid (outsK d2 ng n2 = true) := Lib.hid (by have e1 := l1.out; have e2 := l2.out; rw [e1, e2]; exact e4)
  have HR : Hid (depV (z, d1, d2) = topK (outK d2 (tellK depG d1 ng) n2) n2) := Lib.hid (by
    have hm := top_most (os := d2) (v := tellK depG d1 ng) (fun j => (dep_bd HG.out ng (Nat.le_refl _) j).1) (n := n2) n2 (Nat.le_refl _) q3
    rw [hm]
    simp only [depV, eb, if_true]
    rw [← HLG.out, ← l2.out])
  have HTB : Hid (0 ≤ topK (outK d2 (tellK depG d1 ng) n2) n2 ∧ topK (outK d2 (tellK depG d1 ng) n2) n2 ≤ 16) := Lib.hid (by
    rw [top_most (os := d2) (v := tellK depG d1 ng) (fun j => (dep_bd HG.out ng (Nat.le_refl _) j).1) (n := n2) n2 (Nat.le_refl _) q3]
    exact most_bd (by omega) (fun j => by have := dep_bd HG.out ng (Nat.le_refl _) j; omega) n2)
  clear hlg e0 e1 e2 e3 e4 eb
  have hx := HX1.out
  have hb := HB1.out
  have hr := HRG.out
  have hc0 : w2.cell? ⟨w.heap.size, 0, none⟩ = some (.int .i64 z) := HX1.out.cell 0
  have hc1 : w2.cell? ⟨w.heap.size, 1, none⟩ = some (.slice A1 ng c1) := HX1.out.cell 1
  have hc2 : w2.cell? ⟨w.heap.size, 2, none⟩ = some (.slice A2 n2 c2) := HX1.out.cell 2
  clear HX1 HB1 HRG
  go_wp2
  have hs0 := And.intro hb (And.intro hx (And.intro hc0 (And.intro hc1 hc2)))
  go_region_held3 (fun w' => Below w.heap.size w w' ∧ Bx w' w.heap.size #[.int .i64 z, .slice A1 ng c1, .slice A2 n2 c2] 26 ∧ w'.cell? ⟨w.heap.size, 0, none⟩ = some (.int .i64 z) ∧ w'.cell? ⟨w.heap.size, 1, none⟩ = some (.slice A1 ng c1) ∧ w'.cell? ⟨w.heap.size, 2, none⟩ = some (.slice A2 n2 c2))
    (first | exact ⟨hb, hx, hc0, hc1, hc2⟩ | exact ⟨hb.drew, hx, hc0, hc1, hc2⟩)
    (first
      | (go_at_call 60
         refine (i_gateByGate 61 #[] depG Ag ng cg d1 _ (by first | exact hr | exact hr.drew) q1 eg_depthOf (fun W k A c _ hk hr => i_depthOf (gt d1 k) z k A k c (tellK depG d1 k) W hr (gatesK_at HG.out hk) rfl (by omega) (fun j => by have := dep_bd HG.out k (by omega) j; omega))).mono ?_
         rintro e w3 ⟨A, c, rfl, ho, hb3⟩
         have hn := upd3 (by first | exact hb | exact hb.drew) (by exact hx) hb3
         clear hb hx hc0 hc1 hc2 hb3 hr
         obtain ⟨hb, hx, hc0, hc1, hc2⟩ := hn)
      | (go_at_call 59
         refine (i_atOuts A1 ng c1 A2 n2 c2 A ng c z d2 (tellK depG d1 ng) _ ((H2.out.below (by first | exact hb | exact hb.drew)).more (by exact hb.size)) (by exact ho.rdw) q2 G4.out).mono ?_
         rintro e w4 ⟨A4, c4, rfl, ho4, hb4⟩
         have hn := upd3 (by first | exact hb | exact hb.drew) (by exact hx) hb4
         clear hb hx hc0 hc1 hc2 hb4 ho
         obtain ⟨hb, hx, hc0, hc1, hc2⟩ := hn)
      | (go_at_call 58
         refine (i_Max A4 n2 c4 (outK d2 (tellK depG d1 ng) n2) _ (by exact ho4.rdw) (by omega) q3).mono ?_
         rintro e w5 ⟨rfl, rfl⟩))
  all_goals (
    have HBB := Lib.hid hb
    clear hb hx hc0 hc1 hc2 hs0 ho4
    go_wp2
    go_ret
    exact ⟨ret_i HR.out.symm, HBB.out⟩)

set_option maxHeartbeats 8000000 in
theorem X_i_CircuitDegree (v : Value) (d : Int × List (Int × Int × Int) × List Int) (w : World) (h : RdCircuit w w.heap.size v d) (hs : szCircuit d ≤ 1048576) :
    Calls Try.prog 18 #[v] w fun e w' => e = .returned (.int .i64 (degV d)) ∧ Below w.heap.size w w' := by
  obtain ⟨A1, n1, c1, A2, n2, c2, rfl, h1, h2⟩ := h
  have m1 : n1 ≤ 1048576 := by have := szC1 hs; have := h1.n.2; omega
  have m2 : n2 ≤ 1048576 := by have := szC2 hs; have := h2.n.2; omega
  have l1 := Lib.hid h1.n.2
  have l2 := Lib.hid h2.n.2
  have H1 := Lib.hid h1.n.1
  have H2 := Lib.hid h2.n.1
  clear h1 h2 hs
  obtain ⟨z, d1, d2⟩ := d
  have HX0 : Hid (Bx (w.alloc (.cells #[.int .i64 z, .slice A1 n1 c1, .slice A2 n2 c2] 26)) w.heap.size #[.int .i64 z, .slice A1 n1 c1, .slice A2 n2 c2] 26) := Lib.hid (Bx.new _ _ _)
  have HB0 : Hid (Below w.heap.size w (w.alloc (.cells #[.int .i64 z, .slice A1 n1 c1, .slice A2 n2 c2] 26))) := Lib.hid ((Below.refl _ _).alloc (Nat.le_refl _) _)
  go_enter Try.func18, Try.ntmps18
  go_wp2_with fail
  refine (i_gatesOf A1 n1 c1 A2 n2 c2 z d1 d2 _ ((H1.out.below HB0.out).more HB0.out.size) ((H2.out.below HB0.out).more HB0.out.size) m1 m2).mono ?_
  rintro e w2 ⟨gv, rfl, hno, hyes, hb⟩
  have HX1 := Lib.hid (HX0.out.below hb HX0.out.lt)
  have HB1 : Hid (Below w.heap.size w w2) := Lib.hid (HB0.out.trans (hb.mono HB0.out.size))
  have hz0 := HX1.out.lt
  clear hb HX0 HB0
  cases eb : circB (z, d1, d2)
  · have HF : Hid (degV (z, d1, d2) = -1) := Lib.hid (by simp [degV, eb])
    clear hno hyes
    go_wp2
    go_ret
    exact ⟨ret_i HF.out.symm, HB1.out⟩
  obtain ⟨Ag, ng, cg, rfl, hlg, hrg⟩ := (hyes.out eb).rdv
  have HLG := Lib.hid hlg
  have HRG := Lib.hid hrg
  clear hno hyes hrg
  obtain ⟨e0, e1, e2, e3, e4⟩ := circB_iff eb
  simp only at e0 e1 e2 e3 e4
  obtain rfl : ng = n1 := by have := l1.out; omega
  have q1 : ng ≤ 16 := by omega
  have q2 : n2 ≤ 16 := by have := l2.out; omega
  have q3 : 1 ≤ n2 := by have := l2.out; omega
  have HG : Hid (gatesK d1 z ng = true) := Lib.hid (by rw [HLG.out]; exact e3)
  have G4 : Hid (outsK d2 ng n2 = true) := Lib.hid (by have e1 := l1.out; have e2 := l2.out; rw [e1, e2]; exact e4)
  have HR : Hid (degV (z, d1, d2) = min 1000 (topK (outK d2 (tellK degG d1 ng) n2) n2)) := Lib.hid (by
    have hm := top_most (os := d2) (v := tellK degG d1 ng) (fun j => (deg_bd16 HG.out q1 ng (Nat.le_refl _) j).1) (n := n2) n2 (Nat.le_refl _) q3
    rw [hm]
    simp only [degV, eb, if_true]
    rw [← HLG.out, ← l2.out]
    exact most_cut (fun j => dcut_is HG.out ng (Nat.le_refl _) j) n2)
  have HTB : Hid (0 ≤ topK (outK d2 (tellK degG d1 ng) n2) n2 ∧ topK (outK d2 (tellK degG d1 ng) n2) n2 ≤ 65536) := Lib.hid (by
    rw [top_most (os := d2) (v := tellK degG d1 ng) (fun j => (deg_bd16 HG.out q1 ng (Nat.le_refl _) j).1) (n := n2) n2 (Nat.le_refl _) q3]
    exact most_bd (by omega) (fun j => by have := deg_bd16 HG.out q1 ng (Nat.le_refl _) j; omega) n2)
  clear hlg e0 e1 e2 e3 e4 eb
  have hx := HX1.out
  have hb := HB1.out
  have hr := HRG.out
  have hc0 : w2.cell? ⟨w.heap.size, 0, none⟩ = some (.int .i64 z) := HX1.out.cell 0
  have hc1 : w2.cell? ⟨w.heap.size, 1, none⟩ = some (.slice A1 ng c1) := HX1.out.cell 1
  have hc2 : w2.cell? ⟨w.heap.size, 2, none⟩ = some (.slice A2 n2 c2) := HX1.out.cell 2
  clear HX1 HB1 HRG
  go_wp2
  have hs0 := And.intro hb (And.intro hx (And.intro hc0 (And.intro hc1 hc2)))
  go_region_held3 (fun w' => Below w.heap.size w w' ∧ Bx w' w.heap.size #[.int .i64 z, .slice A1 ng c1, .slice A2 n2 c2] 26 ∧ w'.cell? ⟨w.heap.size, 0, none⟩ = some (.int .i64 z) ∧ w'.cell? ⟨w.heap.size, 1, none⟩ = some (.slice A1 ng c1) ∧ w'.cell? ⟨w.heap.size, 2, none⟩ = some (.slice A2 n2 c2))
    (first | exact ⟨hb, hx, hc0, hc1, hc2⟩ | exact ⟨hb.drew, hx, hc0, hc1, hc2⟩)
    (first
      | (go_at_call 60
         refine (i_gateByGate 63 #[] degG Ag ng cg d1 _ (by first | exact hr | exact hr.drew) q1 eg_degreeOf (fun W k A c _ hk hr => i_degreeOf (gt d1 k) z k A k c (tellK degG d1 k) W hr (gatesK_at HG.out hk) rfl (by omega) (fun j => by have := deg_bd16 HG.out q1 k (by omega) j; omega))).mono ?_
         rintro e w3 ⟨A, c, rfl, ho, hb3⟩
         have hn := upd3 (by first | exact hb | exact hb.drew) (by exact hx) hb3
         clear hb hx hc0 hc1 hc2 hb3 hr
         obtain ⟨hb, hx, hc0, hc1, hc2⟩ := hn)
      | (go_at_call 59
         refine (i_atOuts A1 ng c1 A2 n2 c2 A ng c z d2 (tellK degG d1 ng) _ ((H2.out.below (by first | exact hb | exact hb.drew)).more (by exact hb.size)) (by exact ho.rdw) q2 G4.out).mono ?_
         rintro e w4 ⟨A4, c4, rfl, ho4, hb4⟩
         have hn := upd3 (by first | exact hb | exact hb.drew) (by exact hx) hb4
         clear hb hx hc0 hc1 hc2 hb4 ho
         obtain ⟨hb, hx, hc0, hc1, hc2⟩ := hn)
      | (go_at_call 58
         refine (i_Max A4 n2 c4 (outK d2 (tellK degG d1 ng) n2) _ (by exact ho4.rdw) (by omega) q3).mono ?_
         rintro e w5 ⟨rfl, rfl⟩))
  all_goals (
    have HBB := Lib.hid hb
    clear hb hx hc0 hc1 hc2 hs0 ho4
    go_wp2
    all_goals (
      go_ret
      exact ⟨ret_i (by have := HR.out; omega), HBB.out⟩))
end Go.Proofs.Ytbmjepmlalfpgaa

/- Chapter 9: PartiesNeed of both sides. -/
namespace Go.Proofs.Ytbmjepmlalfpgaa
open Go.RowKit
set_option maxRecDepth 100000

def okP (d : Int × List (Int × Int × Int) × List Int) (n b : Int) : Bool := circB d && (inB n 1 7 && inB b 0 ((n - 1).tdiv 2))
def needK (gs : List (Int × Int × Int)) (n b : Int) : Nat → Int
  | 0 => 0
  | k + 1 => needK gs n b k + (if (gt gs k).1 = 0 then b else if (gt gs k).1 = 4 then n * b else 0)
def needV (d : Int × List (Int × Int × Int) × List Int) (n b : Int) : Int := if okP d n b then needK d.2.1 n b d.2.1.length else -1
theorem need_bd {gs : List (Int × Int × Int)} {n b : Int} (hn : 1 ≤ n ∧ n ≤ 7) (hb : 0 ≤ b ∧ b ≤ 3) (k : Nat) : 0 ≤ needK gs n b k ∧ needK gs n b k ≤ 21 * k := by
  have h1 : 0 ≤ n * b := Int.mul_nonneg (by omega) hb.1
  have h2 : n * b ≤ 7 * 3 := Int.mul_le_mul hn.2 hb.2 hb.1 (by omega)
  induction k with
  | zero => simp [needK]
  | succ k ih =>
    simp only [needK]
    split
    · omega
    · split <;> omega
theorem okP_iff {d : Int × List (Int × Int × Int) × List Int} {n b : Int} (h : okP d n b = true) : circB d = true ∧ (1 ≤ n ∧ n ≤ 7) ∧ 0 ≤ b ∧ b ≤ (n - 1).tdiv 2 := by
  unfold okP at h
  simp only [Bool.and_eq_true, inB_iff] at h
  exact ⟨h.1, h.2.1, h.2.2.1, h.2.2.2⟩

set_option maxHeartbeats 2000000 in
theorem s_l9Ok (A1 : Option Addr) (n1 c1 : Nat) (A2 : Option Addr) (n2 c2 : Nat) (z n b : Int) (d1 : List (Int × Int × Int)) (d2 : List Int) (w : World) (h1 : Rd w w.heap.size 3 A1 n1 (cGate d1)) (h2 : Rd w w.heap.size 1 A2 n2 (cI d2)) (hn1 : n1 ≤ 1048576) (hn2 : n2 ≤ 1048576) :
    Calls Try.prog 66 #[.agg #[.int .i64 z, .slice A1 n1 c1, .slice A2 n2 c2], .int .i64 n, .int .i64 b] w fun e w' => e = .returned (.bool (okP (z, d1, d2) n b)) ∧ Below w.heap.size w w' := by
  have H1 := Lib.hid h1
  have H2 := Lib.hid h2
  clear h1 h2
  have HB0 : Hid (Below w.heap.size w (w.alloc (.cells #[.int .i64 z, .slice A1 n1 c1, .slice A2 n2 c2] 26))) := Lib.hid ((Below.refl _ _).alloc (Nat.le_refl _) _)
  go_enter Try.func66, Try.ntmps66
  go_wp2_with fail
  refine (s_CircuitOk A1 n1 c1 A2 n2 c2 z d1 d2 _ ((H1.out.below HB0.out).more (by simp)) ((H2.out.below HB0.out).more (by simp)) hn1 hn2).mono ?_
  rintro e w2 ⟨rfl, hb⟩
  have HB1 : Hid (Below w.heap.size w w2) := Lib.hid (HB0.out.trans (hb.mono HB0.out.size))
  clear hb HB0
  cases e1 : circB (z, d1, d2)
  · have HF : Hid (okP (z, d1, d2) n b = false) := Lib.hid (by simp [okP, e1])
    go_wp2
    go_ret
    exact ⟨ret_bool HF.out.symm, HB1.out⟩
  cases e2 : inB n 1 7
  · have HF : Hid (okP (z, d1, d2) n b = false) := Lib.hid (by simp [okP, e2])
    go_wp2_with fail
    refine (s_l6In _ _ _ _).mono ?_
    rintro e w' ⟨rfl, rfl⟩
    rw [e2]
    go_wp2
    go_ret
    exact ⟨ret_bool HF.out.symm, HB1.out⟩
  · have HF : Hid (okP (z, d1, d2) n b = inB b 0 ((n - 1).tdiv 2)) := Lib.hid (by simp [okP, e1, e2])
    have hn := inB_iff.1 e2
    have im : IntKind.i64.wrap (n - 1) = n - 1 := IntWalk.i64_in _ (by omega)
    have ht : (n - 1).tdiv 2 = (n - 1) / 2 := Int.tdiv_eq_ediv_of_nonneg (by omega)
    have im2 : IntKind.i64.wrap ((n - 1).tdiv 2) = (n - 1).tdiv 2 := IntWalk.i64_in _ (by omega)
    go_wp2_with fail
    refine (s_l6In _ _ _ _).mono ?_
    rintro e w' ⟨rfl, rfl⟩
    rw [e2]
    clear e1 e2 hn ht
    go_wp2_with fail
    refine (s_l6In _ _ _ _).mono ?_
    rintro e w' ⟨rfl, rfl⟩
    go_wp2
    go_ret
    exact ⟨ret_bool HF.out.symm, HB1.out⟩

set_option maxHeartbeats 2000000 in
theorem s_l9Need (A1 : Option Addr) (n1 c1 : Nat) (A2 : Option Addr) (n2 c2 : Nat) (z n b : Int) (d1 : List (Int × Int × Int)) (w : World) (h1 : Rd w w.heap.size 3 A1 n1 (cGate d1)) (hn1 : n1 ≤ 16) (hn : 1 ≤ n ∧ n ≤ 7) (hb : 0 ≤ b ∧ b ≤ 3) :
    Calls Try.prog 67 #[.agg #[.int .i64 z, .slice A1 n1 c1, .slice A2 n2 c2], .int .i64 n, .int .i64 b] w fun e w' => e = .returned (.int .i64 (needK d1 n b n1)) ∧ Below w.heap.size w w' := by
  have H1 := Lib.hid h1
  clear h1
  have ND := Lib.hid (fun k => need_bd (gs := d1) hn hb k)
  have HX0 : Hid (Bx (w.alloc (.cells #[.int .i64 z, .slice A1 n1 c1, .slice A2 n2 c2] 26)) w.heap.size #[.int .i64 z, .slice A1 n1 c1, .slice A2 n2 c2] 26) := Lib.hid (Bx.new _ _ _)
  have HB0 : Hid (Below w.heap.size w (w.alloc (.cells #[.int .i64 z, .slice A1 n1 c1, .slice A2 n2 c2] 26))) := Lib.hid ((Below.refl _ _).alloc (Nat.le_refl _) _)
  have t0 : 0 ≤ n * b := Int.mul_nonneg (by omega) hb.1
  have t1 : n * b ≤ 7 * 3 := Int.mul_le_mul hn.2 hb.2 hb.1 (by omega)
  have tm : IntKind.i64.wrap (n * b) = n * b := IntWalk.i64_in _ (by omega)
  go_enter Try.func67, Try.ntmps67
  go_wp2
  go_loopw [7, 8] (fun o i wr => ∃ (k : Nat) (M : Int), k ≤ n1 ∧ i = .int .i64 k ∧ o = .int .i64 M ∧ 0 ≤ M ∧ M ≤ 21 * k ∧ Hid (M = needK d1 n b k) ∧ Hid (Bx wr w.heap.size #[.int .i64 z, .slice A1 n1 c1, .slice A2 n2 c2] 26) ∧ Hid (Below w.heap.size w wr)) (fun _ i _ => n1 - (intOf i).toNat)
  case atStart => exact ⟨0, 0, Nat.zero_le _, rfl, rfl, by omega, by omega, Lib.hid rfl, HX0, HB0⟩
  case round =>
    clear HX0 HB0
    obtain ⟨k, M, hk, rfl, rfl, M0, M1, HM, HX, HB⟩ := hrel
    have b1 : wr.cell? ⟨w.heap.size, 1, none⟩ = some (.slice A1 n1 c1) := HX.out.cell 1
    by_cases hlt : k < n1
    · obtain ⟨a, x, y, u, hA, hab, hx0, hy0, hu0, HP⟩ := H1.out.GateAt hlt
      have hx := (HB.out.cell (p := a.add (k * 3)) (by rw [add_block]; exact hab)).trans hx0
      have i0 : (0 : Int) ≤ (k : Int) := by omega
      have i1 : (k : Int) < (n1 : Int) := by omega
      have HQ : Hid ((gt d1 k).1 = x) := Lib.hid (by rw [gt, HP.out])
      have N1 := ND.out (k + 1)
      subst hA
      clear hx0 hy0 hu0 HP
      by_cases e0 : x = 0
      · have HE : Hid (M + b = needK d1 n b (k + 1)) := Lib.hid (by rw [needK, HQ.out, if_pos e0, HM.out])
        rw [← HE.out] at N1
        have im : IntKind.i64.wrap (M + b) = M + b := IntWalk.i64_in _ (by omega)
        clear HM
        go_wp2
        go_roundw
        case rel => exact ⟨k + 1, _, by omega, by go_num, rfl, by omega, by omega, HE, HX, HB⟩
        case measure => simp [intOf] <;> omega
      · by_cases e4 : x = 4
        · have HE : Hid (M + n * b = needK d1 n b (k + 1)) := Lib.hid (by rw [needK, HQ.out, if_neg e0, if_pos e4, HM.out])
          rw [← HE.out] at N1
          have im : IntKind.i64.wrap (M + n * b) = M + n * b := IntWalk.i64_in _ (by omega)
          clear HM
          go_wp2
          go_roundw
          case rel => exact ⟨k + 1, _, by omega, by go_num, rfl, by omega, by omega, HE, HX, HB⟩
          case measure => simp [intOf] <;> omega
        · have HE : Hid (M = needK d1 n b (k + 1)) := Lib.hid (by rw [needK, HQ.out, if_neg e0, if_neg e4, HM.out, Int.add_zero])
          rw [← HE.out] at N1
          clear HM
          go_wp2
          go_roundw
          case rel => exact ⟨k + 1, _, by omega, by go_num, rfl, by omega, by omega, HE, HX, HB⟩
          case measure => simp [intOf] <;> omega
    · have hkn : k = n1 := by omega
      have HF : Hid (M = needK d1 n b n1) := Lib.hid (by rw [← hkn]; exact HM.out)
      clear HM hkn
      go_wp2
      go_ret
      exact ⟨ret_i HF.out, HB.out⟩

set_option maxHeartbeats 2000000 in
theorem X_s_PartiesNeed (v : Value) (d : Int × List (Int × Int × Int) × List Int) (n b : Int) (w : World) (h : RdCircuit w w.heap.size v d) (hs : szCircuit d ≤ 1048576) :
    Calls Try.prog 21 #[v, .int .i64 n, .int .i64 b] w fun e w' => e = .returned (.int .i64 (needV d n b)) ∧ Below w.heap.size w w' := by
  obtain ⟨A1, n1, c1, A2, n2, c2, rfl, h1, h2⟩ := h
  have m1 : n1 ≤ 1048576 := by have := szC1 hs; have := h1.n.2; omega
  have m2 : n2 ≤ 1048576 := by have := szC2 hs; have := h2.n.2; omega
  have l1 := Lib.hid h1.n.2
  have H1 := Lib.hid h1.n.1
  have H2 := Lib.hid h2.n.1
  clear h1 h2 hs
  obtain ⟨z, d1, d2⟩ := d
  have HX0 : Hid (Bx (w.alloc (.cells #[.int .i64 z, .slice A1 n1 c1, .slice A2 n2 c2] 26)) w.heap.size #[.int .i64 z, .slice A1 n1 c1, .slice A2 n2 c2] 26) := Lib.hid (Bx.new _ _ _)
  have HB0 : Hid (Below w.heap.size w (w.alloc (.cells #[.int .i64 z, .slice A1 n1 c1, .slice A2 n2 c2] 26))) := Lib.hid ((Below.refl _ _).alloc (Nat.le_refl _) _)
  go_enter Try.func21, Try.ntmps21
  go_wp2_with fail
  refine (s_l9Ok A1 n1 c1 A2 n2 c2 z n b d1 d2 _ ((H1.out.below HB0.out).more (by simp)) ((H2.out.below HB0.out).more (by simp)) m1 m2).mono ?_
  rintro e w2 ⟨rfl, hb⟩
  have HX1 := Lib.hid (HX0.out.below hb HX0.out.lt)
  have HB1 : Hid (Below w.heap.size w w2) := Lib.hid (HB0.out.trans (hb.mono HB0.out.size))
  clear hb HX0 HB0
  cases e1 : okP (z, d1, d2) n b
  · have HF : Hid (needV (z, d1, d2) n b = -1) := Lib.hid (by simp [needV, e1])
    go_wp2
    go_ret
    exact ⟨ret_i HF.out.symm, HB1.out⟩
  have HF : Hid (needV (z, d1, d2) n b = needK d1 n b n1) := Lib.hid (by simp [needV, e1, l1.out])
  obtain ⟨f1, f2, f3, f4⟩ := okP_iff e1
  obtain ⟨_, g1, _⟩ := circB_iff f1
  simp only at g1
  have q1 : n1 ≤ 16 := by have := l1.out; omega
  have ht : (n - 1).tdiv 2 = (n - 1) / 2 := Int.tdiv_eq_ediv_of_nonneg (by omega)
  have q2 : 0 ≤ b ∧ b ≤ 3 := by omega
  have b0 : w2.cell? ⟨w.heap.size, 0, none⟩ = some (.int .i64 z) := HX1.out.cell 0
  have b1 : w2.cell? ⟨w.heap.size, 1, none⟩ = some (.slice A1 n1 c1) := HX1.out.cell 1
  have b2 : w2.cell? ⟨w.heap.size, 2, none⟩ = some (.slice A2 n2 c2) := HX1.out.cell 2
  clear f1 f3 f4 g1 e1 ht
  go_wp2_with fail
  refine (s_l9Need A1 n1 c1 A2 n2 c2 z n b d1 _ ((H1.out.below HB1.out).more HB1.out.size) q1 f2 q2).mono ?_
  rintro e w3 ⟨rfl, hb⟩
  have HB2 : Hid (Below w.heap.size w w3) := Lib.hid (HB1.out.trans (hb.mono HB1.out.size))
  clear hb b0 b1 b2
  go_wp2
  go_ret
  exact ⟨ret_i HF.out.symm, HB2.out⟩

/-! the program -/
set_option maxHeartbeats 2000000 in
theorem i_drawnBy (g : Int × Int × Int) (t m n b : Int) (w : World) (hg : gateB g t m = true) (hn : 1 ≤ n ∧ n ≤ 7) (hb : 0 ≤ b ∧ b ≤ 3) :
    Calls Try.prog 65 #[gI g, .int .i64 n, .int .i64 b] w fun e w' => e = .returned (.int .i64 (if g.1 = 0 then b else if g.1 = 4 then n * b else 0)) ∧ w = w' := by
  obtain ⟨x, y, u⟩ := g
  have hkd := gateB_kind hg
  simp only at hkd
  clear hg
  have t0 : 0 ≤ n * b := Int.mul_nonneg (by omega) hb.1
  have t1 : n * b ≤ 7 * 3 := Int.mul_le_mul hn.2 hb.2 hb.1 (by omega)
  have tm : IntKind.i64.wrap (n * b) = n * b := IntWalk.i64_in _ (by omega)
  rcases hkd with ⟨rfl, _, _, rfl⟩ | ⟨rfl, _, _, rfl⟩ | ⟨hk3, _, _, _, _⟩
  · have q0 := fun W => ta_input_input (.int .i64 y) W
    simp only [gI]
    go_enter Try.func65, Try.ntmps65
    go_wp2
    go_ret
    exact ⟨rfl, rfl⟩
  · have q0 := fun W => ta_const_input (.int .i64 y) W
    have q1 := fun W => ta_const_product (.int .i64 y) W
    simp only [gI]
    go_enter Try.func65, Try.ntmps65
    go_wp2
    go_ret
    exact ⟨rfl, rfl⟩
  · rcases hk3 with rfl | rfl | rfl
    · have q0 := fun W => ta_linear_input (.int .i64 y) (.int .i64 u) (.int .i64 1) W
      have q1 := fun W => ta_linear_product (.int .i64 y) (.int .i64 u) (.int .i64 1) W
      simp only [gI]
      go_enter Try.func65, Try.ntmps65
      go_wp2
      go_ret
      exact ⟨rfl, rfl⟩
    · have q0 := fun W => ta_linear_input (.int .i64 y) (.int .i64 u) (.int .i64 112) W
      have q1 := fun W => ta_linear_product (.int .i64 y) (.int .i64 u) (.int .i64 112) W
      simp only [gI]
      go_enter Try.func65, Try.ntmps65
      go_wp2
      go_ret
      exact ⟨rfl, rfl⟩
    · have q0 := fun W => ta_product_input (.int .i64 y) (.int .i64 u) W
      have q1 := fun W => ta_product_product (.int .i64 y) (.int .i64 u) W
      simp only [gI]
      go_enter Try.func65, Try.ntmps65
      go_wp2
      go_ret
      exact ⟨rfl, rfl⟩

set_option maxHeartbeats 4000000 in
theorem X_i_PartiesNeed (v : Value) (d : Int × List (Int × Int × Int) × List Int) (n b : Int) (w : World) (h : RdCircuit w w.heap.size v d) (hs : szCircuit d ≤ 1048576) :
    Calls Try.prog 20 #[v, .int .i64 n, .int .i64 b] w fun e w' => e = .returned (.int .i64 (needV d n b)) ∧ Below w.heap.size w w' := by
  obtain ⟨A1, n1, c1, A2, n2, c2, rfl, h1, h2⟩ := h
  have m1 : n1 ≤ 1048576 := by have := szC1 hs; have := h1.n.2; omega
  have m2 : n2 ≤ 1048576 := by have := szC2 hs; have := h2.n.2; omega
  have H1 := Lib.hid h1.n.1
  have H2 := Lib.hid h2.n.1
  clear h1 h2 hs
  obtain ⟨z, d1, d2⟩ := d
  have HB0 : Hid (Below w.heap.size w (w.alloc (.cells #[.int .i64 z, .slice A1 n1 c1, .slice A2 n2 c2] 26))) := Lib.hid ((Below.refl _ _).alloc (Nat.le_refl _) _)
  go_enter Try.func20, Try.ntmps20
  go_wp2_with fail
  refine (i_gatesOf A1 n1 c1 A2 n2 c2 z d1 d2 _ ((H1.out.below HB0.out).more HB0.out.size) ((H2.out.below HB0.out).more HB0.out.size) m1 m2).mono ?_
  rintro e w2 ⟨gv, rfl, hno, hyes, hb⟩
  have HB1 : Hid (Below w.heap.size w w2) := Lib.hid (HB0.out.trans (hb.mono HB0.out.size))
  clear hb HB0
  cases eb : circB (z, d1, d2)
  · have HF : Hid (needV (z, d1, d2) n b = -1) := Lib.hid (by simp [needV, okP, eb])
    clear hno hyes
    go_wp2
    go_ret
    exact ⟨ret_i HF.out.symm, HB1.out⟩
  obtain ⟨Ag, ng, cg, rfl, hlg, hrg⟩ := (hyes.out eb).rdv
  have HLG := Lib.hid hlg
  have HRG := Lib.hid hrg
  clear hno hyes hrg
  obtain ⟨e0, e1, e2, e3, e4⟩ := circB_iff eb
  simp only at e0 e1 e2 e3 e4
  have q1 : ng ≤ 16 := by omega
  have HG : Hid (gatesK d1 z ng = true) := Lib.hid (by rw [HLG.out]; exact e3)
  have HEB := Lib.hid eb
  clear hlg e0 e1 e2 e3 e4 eb
  by_cases hn : 1 ≤ n ∧ n ≤ 7
  rotate_left
  · have HF : Hid (needV (z, d1, d2) n b = -1) := Lib.hid (by simp [needV, okP, inB_f hn])
    by_cases hn1 : n < 1
    all_goals
      have hn2 : n < 1 ∨ 7 < n := by omega
      go_wp2
      go_ret
      exact ⟨ret_i HF.out.symm, HB1.out⟩
  obtain ⟨hn1, hn7⟩ := hn
  have im : IntKind.i64.wrap (n - 1) = n - 1 := IntWalk.i64_in _ (by omega)
  have ht : (n - 1).tdiv 2 = (n - 1) / 2 := Int.tdiv_eq_ediv_of_nonneg (by omega)
  have im2 : IntKind.i64.wrap ((n - 1).tdiv 2) = (n - 1).tdiv 2 := IntWalk.i64_in _ (by omega)
  have hb4 : (n - 1).tdiv 2 ≤ 3 := by omega
  clear ht
  by_cases hb : 0 ≤ b ∧ b ≤ (n - 1).tdiv 2
  rotate_left
  · have HF : Hid (needV (z, d1, d2) n b = -1) := Lib.hid (by simp [needV, okP, inB_f hb])
    by_cases hb1 : b < 0
    all_goals
      have hb2 : b < 0 ∨ (n - 1).tdiv 2 < b := by omega
      go_wp2
      go_ret
      exact ⟨ret_i HF.out.symm, HB1.out⟩
  obtain ⟨hb0, hb1⟩ := hb
  have hb3 : b ≤ 3 := by omega
  have HF : Hid (needV (z, d1, d2) n b = needK d1 n b ng) := Lib.hid (by
    have : okP (z, d1, d2) n b = true := by simp [okP, HEB.out, inB_t ⟨hn1, hn7⟩, inB_t ⟨hb0, hb1⟩]
    simp [needV, this, HLG.out])
  have ND := Lib.hid (fun k => need_bd (gs := d1) ⟨hn1, hn7⟩ ⟨hb0, hb3⟩ k)
  go_wp2
  go_loopw [9, 40] (fun o i wr => ∃ (k : Nat) (M : Int), k ≤ ng ∧ i = .int .i64 k ∧ o = .int .i64 M ∧ 0 ≤ M ∧ M ≤ 21 * k ∧ Hid (M = needK d1 n b k) ∧ wr = w2) (fun _ i _ => ng - (intOf i).toNat)
  case atStart => exact ⟨0, 0, Nat.zero_le _, rfl, rfl, by omega, by omega, Lib.hid rfl, rfl⟩
  case round =>
    obtain ⟨k, M, hk, rfl, rfl, M0, M1, HM, rfl⟩ := hrel
    by_cases hlt : k < ng
    · obtain ⟨a, hA, hab, hc⟩ := HRG.out.2 (by omega)
      have hck := hc k (gI (gt d1 k)) (by have := HLG.out; simp [gt, show k < d1.length by omega])
      have i0 : (0 : Int) ≤ (k : Int) := by omega
      have i1 : (k : Int) < (ng : Int) := by omega
      have N1 := ND.out (k + 1)
      have HC := Lib.hid (i_drawnBy (gt d1 k) k z n b wr (gatesK_at HG.out hlt) ⟨hn1, hn7⟩ ⟨hb0, hb3⟩)
      generalize hD : (if (gt d1 k).1 = 0 then b else if (gt d1 k).1 = 4 then n * b else 0) = D at HC
      have HE : Hid (M + D = needK d1 n b (k + 1)) := Lib.hid (by rw [needK, hD, HM.out])
      rw [← HE.out] at N1
      have ia : IntKind.i64.wrap (M + D) = M + D := IntWalk.i64_in _ (by omega)
      clear hc HM hD
      subst hA
      go_wp2_with fail
      refine HC.out.mono ?_
      rintro e w' ⟨rfl, rfl⟩
      go_wp2
      go_roundw
      case rel => exact ⟨k + 1, _, by omega, by go_num, rfl, by omega, by omega, HE, by first | rfl | trivial⟩
      case measure => simp [intOf] <;> omega
    · have hkn : k = ng := by omega
      have HFF : Hid (M = needV (z, d1, d2) n b) := Lib.hid (by rw [HF.out, ← hkn]; exact HM.out)
      clear HM hkn HF
      go_wp2
      go_ret
      exact ⟨ret_i HFF.out, HB1.out⟩
end Go.Proofs.Ytbmjepmlalfpgaa

/- Lists of lists of points: what reads, what is owned; the laws' helpers over them. Made by tools/genss.py. -/
namespace Go.Proofs.Ytbmjepmlalfpgaa
open Go.RowKit
set_option maxRecDepth 100000

/-- the sum of the lengths of the first k rows -/
def lensKP (d : List (List (Int × Int))) : Nat → Nat
  | 0 => 0
  | k + 1 => lensKP d k + (d.getD k []).length
theorem lensKP_mono (d : List (List (Int × Int))) {i j : Nat} (h : i ≤ j) : lensKP d i ≤ lensKP d j := by
  induction j with
  | zero => rw [show i = 0 by omega]; exact Nat.le_refl _
  | succ j ih =>
    by_cases hc : i = j + 1
    · rw [hc]; exact Nat.le_refl _
    · have := ih (by omega); rw [lensKP]; omega
theorem lensKP_row (d : List (List (Int × Int))) {k n : Nat} (h : k < n) : (d.getD k []).length ≤ lensKP d n := by
  have := lensKP_mono d (show k + 1 ≤ n by omega); rw [lensKP] at this; omega

/-- (A, n) reads as the rows d, below block hi -/
def RdRP (w : World) (hi : Nat) (A : Option Addr) (n : Nat) (vs : List Value) (d : List (List (Int × Int))) : Prop :=
  Rd w hi 1 A n vs ∧ d.length = n ∧ ∀ i, i < n → RdPointS w hi (vs.getD i undef) (d.getD i [])
/-- (A, n, c) is a row of slices of its own, each of which owns its ints; no two share a block -/
def OwRP (w : World) (lo hi : Nat) (A : Option Addr) (n c : Nat) (vs : List Value) (d : List (List (Int × Int))) : Prop :=
  Ow w lo hi 37 1 A n c vs ∧ d.length = n ∧ (∀ i, i < n → OwPointS w lo hi (vs.getD i undef) (d.getD i [])) ∧
  ∀ i j, i < n → j < n → i ≠ j → d.getD i [] ≠ [] → d.getD j [] ≠ [] → (vs.getD i undef).ownBlock ≠ (vs.getD j undef).ownBlock

section
variable {w w' : World} {lo hi lo' hi' n c k g : Nat} {A : Option Addr} {vs : List Value} {d : List (List (Int × Int))}
theorem RdRP.row (h : RdRP w hi A n vs d) (hk : k < n) : ∃ (a : Addr) (Ai : Option Addr) (ni ci : Nat), A = some a ∧ a.block < hi ∧ w.cell? (a.add k) = some (.slice Ai ni ci) ∧ RdPointS w hi (.slice Ai ni ci) (d.getD k []) ∧ ni ≤ 9223372036854775807 ∧ (d.getD k []).length = ni := by
  obtain ⟨h1, h2, h3⟩ := h
  obtain ⟨a, e, hb, hc⟩ := h1.2 (by omega)
  have hl := h1.1
  have hr := h3 k hk
  obtain ⟨Ai, ni, ci, e2, hn, r⟩ := h3 k hk
  refine ⟨a, Ai, ni, ci, e, hb, ?_, ?_, hn, r.plen⟩
  · rw [← e2]; exact hc k _ (getD_get (by omega))
  · rw [← e2]; exact hr
theorem RdRP.keep (h : RdRP w hi A n vs d) (hb : Below hi w w') : RdRP w' hi A n vs d := ⟨h.1.below hb, h.2.1, fun i hi' => (h.2.2 i hi').below hb⟩
theorem RdRP.more (h : RdRP w hi A n vs d) (hh : hi ≤ hi') : RdRP w hi' A n vs d := ⟨h.1.more hh, h.2.1, fun i hi' => (h.2.2 i hi').more hh⟩
theorem OwRP.rd (h : OwRP w lo hi A n c vs d) : RdRP w hi A n vs d := ⟨h.1.rd, h.2.1, fun i hi' => (h.2.2.1 i hi').rd⟩
theorem OwRP.below {B : Nat} (h : OwRP w lo hi A n c vs d) (hb : Below B w w') (hz : hi ≤ B) : OwRP w' lo hi A n c vs d :=
  ⟨h.1.below hb hz, h.2.1, fun i hi' => (h.2.2.1 i hi').below hb hz, h.2.2.2⟩
theorem OwRP.kept {mid : Nat} (h : OwRP w lo hi A n c vs d) (hk : Kept lo' mid w w') (hz : hi ≤ w.heap.size) (hd : mid ≤ lo ∨ hi ≤ lo') : OwRP w' lo hi A n c vs d :=
  ⟨h.1.kept hk hz hd, h.2.1, fun i hi' => (h.2.2.1 i hi').kept hk hz hd, h.2.2.2⟩
theorem OwRP.widen (h : OwRP w lo hi A n c vs d) (h1 : lo' ≤ lo) (h2 : hi ≤ hi') : OwRP w lo' hi' A n c vs d :=
  ⟨h.1.widen h1 h2, h.2.1, fun i hi' => (h.2.2.1 i hi').widen h1 h2, h.2.2.2⟩
theorem OwPointS.kept1 {v : Value} {x : List (Int × Int)} (h : OwPointS w lo hi v x) (hk : Kept g (g + 1) w w') (hz : hi ≤ w.heap.size) (hne : x ≠ [] → v.ownBlock ≠ some g) : OwPointS w' lo hi v x := by
  obtain ⟨hs, A, n, c, rfl, r⟩ := h
  refine ⟨hs, A, n, c, rfl, r.kept1 hk hz fun h0 e => ?_⟩
  have hl := r.plen
  exact hne (by intro e; rw [e] at hl; simp at hl; omega) (by rw [e]; rfl)
/-- what is not empty lies in one block -/
theorem OwPointS.tight {v : Value} {x : List (Int × Int)} (h : OwPointS w lo hi v x) (hx : x ≠ []) : ∃ g, lo ≤ g ∧ g < hi ∧ v.ownBlock = some g ∧ OwPointS w g (g + 1) v x ∧ ∃ cs, w.heap[g]? = some (.cells cs 96 (0, 0)) := by
  obtain ⟨hs, A, n, c, rfl, r⟩ := h
  have hl := r.plen
  have hn : 0 < n := by rcases Nat.eq_zero_or_pos n with h0 | h0; · exact absurd (List.eq_nil_of_length_eq_zero (by omega)) hx
                        · exact h0
  obtain ⟨g, cs, rfl, a, b, hb, ht⟩ := r.lt hn
  exact ⟨g, a, b, rfl, ⟨hs, _, _, _, rfl, r.1, r.2.1, .inr ⟨g, cs, rfl, Nat.le_refl _, by omega, hb, ht⟩⟩, cs, hb⟩
/-- an empty one lies anywhere -/
theorem OwPointS.empty {v : Value} (h : OwPointS w lo hi v []) (lo' hi' : Nat) (w' : World) : OwPointS w' lo' hi' v [] := by
  obtain ⟨hs, A, n, c, rfl, r⟩ := h
  exact ⟨hs, A, n, c, rfl, by have := r.plen; simp [cP] at this ⊢; omega, r.2.1, .inl (by have := r.plen.symm; simpa using this)⟩
theorem OwRP.row (h : OwRP w lo hi A n c vs d) (hk : k < n) : ∃ (g : Nat) (Ai : Option Addr) (ni ci : Nat), A = some ⟨g, 0, none⟩ ∧ lo ≤ g ∧ g < hi ∧ w.cell? ⟨g, k, none⟩ = some (.slice Ai ni ci) ∧ vs.getD k undef = .slice Ai ni ci ∧ OwPointS w lo hi (.slice Ai ni ci) (d.getD k []) ∧ ni = (d.getD k []).length ∧ ni ≤ ci := by
  obtain ⟨h1, h2, h3, _⟩ := h
  obtain ⟨g, cs, rfl, a, b, hb, ht⟩ := h1.lt (by omega)
  have hl := h1.1
  have hr := h3 k hk
  obtain ⟨_, Ai, ni, ci, e2, r⟩ := h3 k hk
  refine ⟨g, Ai, ni, ci, rfl, a, b, ?_, e2, ?_, r.plen.symm, r.2.1⟩
  · rw [← e2]; exact h1.cellAt (getD_get (by omega))
  · rw [← e2]; exact hr
/-- one row turned in its block -/
theorem OwRP.turn (h : OwRP w lo hi A n c vs d) (hk : k < n) {x : List (Int × Int)} (hkp : Kept g (g + 1) w w') (hz : hi ≤ w.heap.size) (hx : d.getD k [] ≠ []) (hg : (vs.getD k undef).ownBlock = some g) (ho : OwPointS w' lo hi (vs.getD k undef) x) :
    OwRP w' lo hi A n c vs (d.set k x) := by
  obtain ⟨h1, h2, h3, h4⟩ := h
  have get : ∀ i, (d.set k x).getD i [] = if k = i then x else d.getD i [] := by
    intro i
    simp only [List.getD_eq_getElem?_getD, List.getElem?_set]
    by_cases hc : k = i
    · subst hc; rw [if_pos rfl, if_pos rfl, if_pos (by omega)]; rfl
    · rw [if_neg hc, if_neg hc]
  refine ⟨h1.kept1 hkp hz fun hn e => ?_, by rw [List.length_set]; exact h2, fun i hi' => ?_, fun i j hi' hj' hij hxi hxj => ?_⟩
  · obtain ⟨g', cs', rfl, _, _, hb', _⟩ := h1.lt hn
    injection e with e; injection e with e; subst e
    obtain ⟨g2, _, _, hb2, _, cs, hb⟩ := (h3 k hk).tight hx
    rw [hb2] at hg; injection hg with hg; subst hg
    rw [hb] at hb'; injection hb' with hb'; injection hb' with _ ht
    exact absurd ht (by decide)
  · rw [get i]
    by_cases hc : k = i
    · subst hc; rw [if_pos rfl]; exact ho
    · rw [if_neg hc]
      refine (h3 i hi').kept1 hkp hz fun hne => ?_
      rw [← hg]; exact h4 i k hi' hk (fun e => hc e.symm) hne hx
  · refine h4 i j hi' hj' hij ?_ ?_
    · rw [get i] at hxi
      by_cases hc : k = i
      · subst hc; exact hx
      · rwa [if_neg hc] at hxi
    · rw [get j] at hxj
      by_cases hc : k = j
      · subst hc; exact hx
      · rwa [if_neg hc] at hxj
end

theorem infoP_row : (Try.prog.info? 37).map (fun i => (i.zero, i.size, i.bytes)) = some (some (.slice none 0 0), 1, 24) := by kernel_rfl

/-- the first k rows copied, the others still nil -/
def copyRP (d : List (List (Int × Int))) (n k : Nat) : List (List (Int × Int)) := d.take k ++ List.replicate (n - k) []
theorem copyRP_get (d : List (List (Int × Int))) (n k i : Nat) (h : d.length = n) (hk : k ≤ n) : (copyRP d n k).getD i [] = if i < k then d.getD i [] else [] := by
  unfold copyRP
  simp only [List.getD_eq_getElem?_getD, List.getElem?_append, List.length_take, List.getElem?_take, List.getElem?_replicate]
  by_cases h1 : i < k
  · rw [if_pos (by omega), if_pos h1, if_pos h1]
  · rw [if_neg (by omega), if_neg h1]
    by_cases h2 : i - min k d.length < n - k
    · rw [if_pos h2]; rfl
    · rw [if_neg h2]; rfl
theorem copyRP_all (d : List (List (Int × Int))) (n : Nat) (h : d.length = n) : copyRP d n n = d := by
  unfold copyRP; rw [List.take_of_length_le (by omega), Nat.sub_self]; simp

set_option maxHeartbeats 1000000 in
theorem l_toPointSS (A : Option Addr) (n c : Nat) (vs : List Value) (d : List (List (Int × Int))) (w : World) (h : RdRP w w.heap.size A n vs d) (hn : n ≤ 1048576) (hl : lensKP d n ≤ 1048576) :
    Calls Try.prog 92 #[.slice A n c] w fun e w' => ∃ vs', e = .returned (.slice (some ⟨w.heap.size, 0, none⟩) n n) ∧ OwRP w' w.heap.size w'.heap.size (some ⟨w.heap.size, 0, none⟩) n n vs' d ∧ Below w.heap.size w w' := by
  have hmk := fun W => run_make1 (P := Try.prog) Try.underlying71 infoP_row rfl n (by omega) (by omega) W
  have hlen : Hid (d.length = n) := Lib.hid h.2.1
  have HL := Lib.hid hl
  have H := Lib.hid h
  clear h hl
  go_enter Try.func92, Try.ntmps92
  go_wp2
  go_loopw [4] (fun i wr => ∃ (k : Nat) (vs' : List Value), k ≤ n ∧ i = .int .i64 k ∧ Hid (OwRP wr w.heap.size wr.heap.size (some ⟨w.heap.size, 0, none⟩) n n vs' (copyRP d n k)) ∧ Hid (Below w.heap.size w wr)) (fun i _ => n - (intOf i).toNat)
  case atStart =>
    refine ⟨0, List.replicate n (.slice none 0 0), Nat.zero_le _, rfl, Lib.hid ⟨?_, ?_, fun i hi => ?_, fun i j hi hj hij hx => ?_⟩, Lib.hid ((Below.refl _ _).alloc (Nat.le_refl _) _)⟩
    · exact (Ow.zeros w (.slice none 0 0) 37 n).widen (Nat.le_refl _) (by simp)
    · simp [copyRP]
    · rw [copyRP_get _ _ _ _ hlen.out (Nat.zero_le _), if_neg (by omega)]
      rw [show (List.replicate n (Value.slice none 0 0)).getD i undef = .slice none 0 0 by simp [hi]]
      exact OwPointS.nil_ _ _ _
    · rw [copyRP_get _ _ _ _ hlen.out (Nat.zero_le _), if_neg (by omega)] at hx; exact absurd rfl hx
  case round =>
    obtain ⟨k, vs', hk, rfl, HO, HB⟩ := hrel
    by_cases hlt : k < n
    · obtain ⟨a, Ai, ni, ci, rfl, hab, hc0, hri, hni, hleni⟩ := H.out.row hlt
      have hc := (HB.out.cell (p := a.add k) (by rw [add_block]; exact hab)).trans hc0
      have HR := Lib.hid (RdPointS.below hri HB.out)
      have HS : Hid (szPointS (d.getD k []) ≤ 1048576) := Lib.hid (by have := lensKP_row d hlt; have := HL.out; unfold szPointS; omega)
      have hz := HB.out.size
      clear hc0 hri hni hleni
      go_wp2_with fail
      refine (L_toPointS _ _ (d.getD k []) _ HR.out hz HS.out).mono ?_
      rintro e w2 ⟨v, rfl, ho, hb⟩
      obtain ⟨Av, nv, cv, hv⟩ : ∃ Av nv cv, v = .slice Av nv cv := by obtain ⟨_, Av, nv, cv, rfl, _⟩ := ho; exact ⟨_, _, _, rfl⟩
      subst hv
      have hz2 := hb.size
      have HO1 := Lib.hid (HO.out.below hb (Nat.le_refl _))
      have HV := Lib.hid ho
      have HB1 : Hid (Below w.heap.size w w2) := Lib.hid (HB.out.trans (hb.mono hz))
      have hcell : ∃ u, w2.cell? ⟨w.heap.size, k, none⟩ = some u := by
        obtain ⟨g, Aj, nj, cj, e, _, _, hcc, _⟩ := HO1.out.row hlt
        injection e with e; injection e with e; subst e
        exact ⟨_, hcc⟩
      obtain ⟨u, hcu⟩ := hcell
      have hf := HO1.out.1.free (by omega) k
      have HO2 : Hid (OwRP (w2.setCell ⟨w.heap.size, k, none⟩ (.slice Av nv cv)) w.heap.size (w2.setCell ⟨w.heap.size, k, none⟩ (.slice Av nv cv)).heap.size (some ⟨w.heap.size, 0, none⟩) n n (vs'.set k (.slice Av nv cv)) (copyRP d n (k + 1))) := Lib.hid (by
        have hlv : vs'.length = n := by have := HO1.out.1.1; omega
        have hgv : ∀ i, (vs'.set k (.slice Av nv cv)).getD i undef = if k = i then .slice Av nv cv else vs'.getD i undef := by
          intro i
          simp only [List.getD_eq_getElem?_getD, List.getElem?_set]
          by_cases hc : k = i
          · subst hc; rw [if_pos rfl, if_pos rfl, if_pos (by omega)]; rfl
          · rw [if_neg hc, if_neg hc]
        have hkp : Kept w.heap.size (w.heap.size + 1) w2 (w2.setCell ⟨w.heap.size, k, none⟩ (.slice Av nv cv)) := (Kept.refl _ _ _).setCell (p := ⟨w.heap.size, k, none⟩) (Nat.le_refl _) (Nat.lt_succ_self _) (.slice Av nv cv)
        have hout := HO1.out.1.set k (.slice Av nv cv)
        have hzz : (w2.setCell ⟨w.heap.size, k, none⟩ (.slice Av nv cv)).heap.size = w2.heap.size := World.size_setCell _ _ _
        have far : ∀ {x : List (Int × Int)} {u : Value}, x ≠ [] → OwPointS w2 w.heap.size wr.heap.size u x → u.ownBlock ≠ some w.heap.size := by
          intro x u hx hu e
          obtain ⟨g, _, _, hb2, _, cs, hg⟩ := hu.tight hx
          rw [hb2] at e; injection e with e; subst e
          obtain ⟨g', cs', e', _, _, hg', _⟩ := HO1.out.1.lt (by omega)
          injection e' with e'; injection e' with e'; subst e'
          rw [hg] at hg'; injection hg' with hg'; injection hg' with _ ht
          exact absurd ht (by decide)
        refine ⟨hout.widen (Nat.le_refl _) (by omega), by simp [copyRP]; have := hlen.out; omega, fun i hi => ?_, fun i j hi hj hij hx hy => ?_⟩
        · rw [hgv, copyRP_get _ _ _ _ hlen.out (by omega), hzz]
          by_cases hc : k = i
          · subst hc
            rw [if_pos rfl, if_pos (by omega)]
            exact (HV.out.kept hkp (Nat.le_refl _) (.inl (by have := HO.out.1.lt (by omega); obtain ⟨_, _, e, _, h2, _⟩ := this; injection e with e; injection e with e; omega))).widen hz (Nat.le_refl _)
          · rw [if_neg hc]
            have h1 := HO1.out.2.2.1 i hi
            rw [copyRP_get _ _ _ _ hlen.out (by omega)] at h1
            by_cases h2 : i < k
            · rw [if_pos h2] at h1
              rw [if_pos (by omega)]
              exact (h1.kept1 hkp hz2 fun hx => far hx h1).widen (Nat.le_refl _) hz2
            · rw [if_neg h2] at h1
              rw [if_neg (by omega)]
              exact h1.empty _ _ _
        · rw [copyRP_get _ _ _ _ hlen.out (by omega)] at hx hy
          rw [hgv, hgv]
          have old : ∀ i, i < n → i ≠ k → (if i < k + 1 then d.getD i [] else []) ≠ [] → OwPointS w2 w.heap.size wr.heap.size (vs'.getD i undef) (d.getD i []) ∧ d.getD i [] ≠ [] := by
            intro i hi hne hx
            by_cases h2 : i < k + 1
            · rw [if_pos h2] at hx
              have h1 := HO1.out.2.2.1 i hi
              rw [copyRP_get _ _ _ _ hlen.out (by omega), if_pos (by omega)] at h1
              exact ⟨h1, hx⟩
            · rw [if_neg h2] at hx; exact absurd rfl hx
          by_cases hci : k = i
          · subst hci
            rw [if_pos rfl, if_neg (by omega)]
            rw [if_pos (by omega)] at hx
            obtain ⟨h1, h2⟩ := old j hj (by omega) hy
            obtain ⟨g, a1, _, b1, _⟩ := HV.out.tight hx
            obtain ⟨g', _, a2, b2, _⟩ := h1.tight h2
            rw [b1, b2]; intro e; injection e with e; omega
          · rw [if_neg hci]
            by_cases hcj : k = j
            · subst hcj
              rw [if_pos rfl]
              rw [if_pos (by omega)] at hy
              obtain ⟨h1, h2⟩ := old i hi (by omega) hx
              obtain ⟨g, a1, _, b1, _⟩ := HV.out.tight hy
              obtain ⟨g', _, a2, b2, _⟩ := h1.tight h2
              rw [b1, b2]; intro e; injection e with e; omega
            · rw [if_neg hcj]
              obtain ⟨h1, h2⟩ := old i hi (by omega) hx
              obtain ⟨h3, h4⟩ := old j hj (by omega) hy
              have hik : i < k := by
                by_cases hh : i < k + 1
                · omega
                · rw [if_neg hh] at hx; exact absurd rfl hx
              have hjk : j < k := by
                by_cases hh : j < k + 1
                · omega
                · rw [if_neg hh] at hy; exact absurd rfl hy
              exact HO1.out.2.2.2 i j hi hj hij (by rw [copyRP_get _ _ _ _ hlen.out (by omega), if_pos hik]; exact h2) (by rw [copyRP_get _ _ _ _ hlen.out (by omega), if_pos hjk]; exact h4))
      have HB2 := Lib.hid (HB1.out.setCell (p := ⟨w.heap.size, k, none⟩) (Nat.le_refl _) (.slice Av nv cv))
      clear ho hb HO HB HO1 HV HB1 hc
      go_wp2
      go_roundw
      case rel => exact ⟨k + 1, _, by omega, by go_num, HO2, HB2⟩
      case measure => simp [intOf] <;> omega
    · have hkn : k = n := by omega
      have HO2 : Hid (OwRP wr w.heap.size wr.heap.size (some ⟨w.heap.size, 0, none⟩) n n vs' d) := Lib.hid (by have := HO.out; rw [hkn, copyRP_all _ _ hlen.out] at this; exact this)
      clear HO hkn
      go_wp2
      go_ret
      exact ⟨_, rfl, HO2.out, HB.out⟩

set_option maxHeartbeats 1000000 in
theorem l_eqPointSS (A A' : Option Addr) (n c c' : Nat) (vs vs' : List Value) (d : List (List (Int × Int))) (w : World) (h : RdRP w w.heap.size A n vs d) (h' : RdRP w w.heap.size A' n vs' d) (hn : n ≤ 1048576) (hl : lensKP d n ≤ 1048576) :
    Calls Try.prog 93 #[.slice A n c, .slice A' n c'] w fun e w' => e = .returned (.bool true) ∧ Below w.heap.size w w' := by
  have HL := Lib.hid hl
  have H := Lib.hid h
  have H' := Lib.hid h'
  clear h h' hl
  go_enter Try.func93, Try.ntmps93
  go_wp2
  go_loopw [5] (fun i wr => ∃ k : Nat, k ≤ n ∧ i = .int .i64 k ∧ Hid (Below w.heap.size w wr)) (fun i _ => n - (intOf i).toNat)
  case atStart => exact ⟨0, Nat.zero_le _, rfl, Lib.hid (Below.refl _ _)⟩
  case round =>
    obtain ⟨k, hk, rfl, HB⟩ := hrel
    by_cases hlt : k < n
    · obtain ⟨a, Ai, ni, ci, rfl, hab, hc0, hr, _, _⟩ := H.out.row hlt
      obtain ⟨a', Aj, nj, cj, rfl, hab', hc0', hr', _, _⟩ := H'.out.row hlt
      have hc := (HB.out.cell (p := a.add k) (by rw [add_block]; exact hab)).trans hc0
      have hc' := (HB.out.cell (p := a'.add k) (by rw [add_block]; exact hab')).trans hc0'
      have HR := Lib.hid (RdPointS.below hr HB.out.drew)
      have HR' := Lib.hid (RdPointS.below hr' HB.out.drew)
      have HS : Hid (szPointS (d.getD k []) ≤ 1048576) := Lib.hid (by have := lensKP_row d hlt; have := HL.out; unfold szPointS; omega)
      have hz := HB.out.size
      have i0 : (0 : Int) ≤ (k : Int) := by omega
      have i1 : (k : Int) < (n : Int) := by omega
      clear hc0 hr hc0' hr'
      go_wp2
      go_still_tail 8, (by kernel_rfl)
      change wpList _ _ _ _ _ wr.drew
      go_wp2_with fail
      refine (L_eqPointS w.heap.size w.heap.size _ _ (d.getD k []) _ HR.out HR'.out hz hz HS.out).mono ?_
      rintro e w2 ⟨rfl, hb⟩
      have HB2 : Hid (Below w.heap.size w w2) := Lib.hid (HB.out.drew.trans (hb.mono hz))
      clear hc hc' hb HB
      go_wp2
      go_roundw
      case rel => exact ⟨k + 1, by omega, by go_num, HB2⟩
      case measure => simp [intOf] <;> omega
    · go_wp2
      go_ret
      exact ⟨rfl, HB.out⟩

/-- rows marked one behind the other -/
def mkRowP (K : Int) (d : List (List (Int × Int))) (i : Nat) : List (Int × Int) := iotaP (K + 2 * lensKP d i) (d.getD i []).length
def mkPointSS (K : Int) (d : List (List (Int × Int))) : List (List (Int × Int)) := (List.range d.length).map (mkRowP K d)
def markRP (K : Int) (d : List (List (Int × Int))) (k : Nat) : List (List (Int × Int)) := (List.range d.length).map fun i => if i < k then mkRowP K d i else d.getD i []
theorem markRP_get (K : Int) (d : List (List (Int × Int))) (k i : Nat) (h : i < d.length) : (markRP K d k).getD i [] = if i < k then mkRowP K d i else d.getD i [] := by simp [markRP, h]
theorem mkPointSS_get (K : Int) (d : List (List (Int × Int))) (i : Nat) (h : i < d.length) : (mkPointSS K d).getD i [] = mkRowP K d i := by simp [mkPointSS, h]
theorem mkRowP_len (K : Int) (d : List (List (Int × Int))) (i : Nat) : (mkRowP K d i).length = (d.getD i []).length := by rw [mkRowP, iotaP_length]
theorem markRP_length (K : Int) (d : List (List (Int × Int))) (k : Nat) : (markRP K d k).length = d.length := by simp [markRP]
theorem mkPointSS_length (K : Int) (d : List (List (Int × Int))) : (mkPointSS K d).length = d.length := by simp [mkPointSS]
theorem ext_rowsP {p q : List (List (Int × Int))} (hl : p.length = q.length) (h : ∀ j, j < p.length → p.getD j [] = q.getD j []) : p = q := by
  apply List.ext_getElem hl
  intro j h1 h2
  have := h j h1
  simpa [h1, h2] using this
theorem markRP_0 (K : Int) (d : List (List (Int × Int))) : markRP K d 0 = d := ext_rowsP (markRP_length _ _ _) fun j hj => by rw [markRP_length] at hj; rw [markRP_get _ _ _ _ hj, if_neg (by omega)]
theorem markRP_n (K : Int) (d : List (List (Int × Int))) : markRP K d d.length = mkPointSS K d := ext_rowsP (by rw [markRP_length, mkPointSS_length]) fun j hj => by rw [markRP_length] at hj; rw [markRP_get _ _ _ _ hj, if_pos hj, mkPointSS_get _ _ _ hj]
theorem markRP_succ (K : Int) (d : List (List (Int × Int))) (k : Nat) (_hk : k < d.length) : (markRP K d k).set k (mkRowP K d k) = markRP K d (k + 1) := by
  refine ext_rowsP (by simp [markRP_length]) fun j hj => ?_
  rw [List.length_set, markRP_length] at hj
  rw [markRP_get _ _ _ _ hj]
  simp only [List.getD_eq_getElem?_getD, List.getElem?_set, markRP_length]
  by_cases hc : k = j
  · subst hc; rw [if_pos rfl, if_pos hj, if_pos (by omega)]; rfl
  · rw [if_neg hc, ← List.getD_eq_getElem?_getD, markRP_get _ _ _ _ hj]
    by_cases h2 : j < k
    · rw [if_pos h2, if_pos (by omega)]
    · rw [if_neg h2, if_neg (by omega)]; rfl

set_option maxHeartbeats 1000000 in
theorem l_markPointSS (A : Option Addr) (n c lo hi : Nat) (vs : List Value) (d : List (List (Int × Int))) (K : Int) (w : World) (h : OwRP w lo hi A n c vs d) (hz : hi ≤ w.heap.size) (hn : n ≤ 1048576) (hl : lensKP d n ≤ 1048576) (hK : 0 ≤ K) (hK2 : K ≤ 1000000000) :
    Calls Try.prog 94 #[.slice A n c, .int .i64 K] w fun e w' => ∃ K', e = .returned (.int .i64 K') ∧ Hid (K' = K + 2 * lensKP d n) ∧ OwRP w' lo hi A n c vs (mkPointSS K d) ∧ Kept lo hi w w' := by
  have hlen := Lib.hid h.2.1
  have HL := Lib.hid hl
  have H := Lib.hid h
  clear h hl
  go_enter Try.func94, Try.ntmps94
  go_wp2
  go_loopw [1, 5] (fun kk i wr => ∃ (k : Nat) (Q : Int), k ≤ n ∧ i = .int .i64 k ∧ kk = .int .i64 Q ∧ 0 ≤ Q ∧ Q ≤ 1002097152 ∧ Hid (Q = K + 2 * lensKP d k) ∧ Hid (OwRP wr lo hi A n c vs (markRP K d k)) ∧ Hid (Kept lo hi w wr)) (fun _ i _ => n - (intOf i).toNat)
  case atStart => exact ⟨0, K, Nat.zero_le _, rfl, rfl, hK, by omega, Lib.hid (by simp [lensKP]), Lib.hid (by rw [markRP_0]; exact H.out), Lib.hid (Kept.refl _ _ _)⟩
  case round =>
    obtain ⟨k, Q, hk, rfl, rfl, q0, q1, HQ, HO, HB⟩ := hrel
    by_cases hlt : k < n
    · obtain ⟨g, Ai, ni, ci, hA, g1, g2, hc, hv, hr, hni, hnc⟩ := HO.out.row hlt
      rw [markRP_get _ _ _ _ (by have := hlen.out; omega), if_neg (by omega)] at hr hni
      have HV := Lib.hid hv
      have HR := Lib.hid hr
      have HNI := Lib.hid hni
      have HS : Hid (lensKP d (k + 1) ≤ 1048576) := Lib.hid (by have := lensKP_mono d (show k + 1 ≤ n by omega); have := HL.out; omega)
      have q2 : Q ≤ 1000000000 + 2097152 := by omega
      have HZ : Hid (hi ≤ wr.heap.size) := Lib.hid (by have := HB.out.size; omega)
      subst hA
      have hcl : (⟨g, 0, none⟩ : Addr).add k = ⟨g, k, none⟩ := add_zero_head g k
      clear hv hr hni hcl
      go_wp2_with fail
      by_cases he : d.getD k [] = []
      · have hr2 : OwPointS wr 0 0 (.slice Ai ni ci) [] := OwPointS.empty (he ▸ HR.out) 0 0 wr
        refine (l_markPointS Ai ni ci 0 0 [] Q _ (by obtain ⟨_, A2, n2, c2, e, r⟩ := hr2; injection e with e1 e2 e3; subst e1; subst e2; subst e3; exact r) (by have := HNI.out; rw [he] at this; simp at this; omega) q0 (by omega)).mono ?_
        rintro e w2 ⟨rfl, _, hk2⟩
        have HQ2 : Hid (Q + 2 * (ni : Int) = K + 2 * lensKP d (k + 1)) := Lib.hid (by rw [HQ.out, HNI.out, lensKP]; omega)
        have hni0 : ni = 0 := by have := HNI.out; rw [he] at this; simpa using this
        have HO2 : Hid (OwRP w2 lo hi (some ⟨g, 0, none⟩) n c vs (markRP K d (k + 1))) := Lib.hid (by
          have h1 := HO.out.kept hk2 HZ.out (.inl (Nat.zero_le _))
          have h2 : markRP K d (k + 1) = markRP K d k := by
            refine ext_rowsP (by rw [markRP_length, markRP_length]) fun j hj => ?_
            rw [markRP_length] at hj
            rw [markRP_get _ _ _ _ hj, markRP_get _ _ _ _ hj]
            by_cases hc : j = k
            · subst hc; rw [if_pos (by omega), if_neg (by omega), he, mkRowP, he]; simp [iotaP]
            · by_cases h3 : j < k
              · rw [if_pos h3, if_pos (by omega)]
              · rw [if_neg h3, if_neg (by omega)]
          rw [h2]; exact h1)
        have HB2 : Hid (Kept lo hi w w2) := Lib.hid (HB.out.trans ⟨hk2.os, hk2.tape, hk2.output, hk2.size, fun i hi' _ => hk2.block i hi' (by omega)⟩)
        have q3 : Q + 2 * (ni : Int) ≤ 1002097152 := by omega
        clear hk2 HO HB hr2 he hc hni0
        go_wp2
        go_roundw
        case rel => exact ⟨k + 1, _, by omega, by go_num, rfl, by omega, q3, HQ2, HO2, HB2⟩
        case measure => simp [intOf] <;> omega
      · obtain ⟨g', gl, gh, hb, ht, _⟩ := HR.out.tight he
        have HE := Lib.hid he
        have HBK := Lib.hid hb
        have HT := Lib.hid ht
        have htt : Ow wr g' (g' + 1) 96 2 Ai ni ci (cP (d.getD k [])) := by obtain ⟨_, A2, n2, c2, e, r⟩ := ht; injection e with e1 e2 e3; subst e1; subst e2; subst e3; exact r
        have hsm : ni ≤ 1048576 := by have := HNI.out; have := HS.out; rw [lensKP] at this; omega
        clear he hb ht
        refine (l_markPointS Ai ni ci g' (g' + 1) (d.getD k []) Q _ htt hsm q0 (by omega)).mono ?_
        rintro e w2 ⟨rfl, ho2, hk2⟩
        have HQ2 : Hid (Q + 2 * (ni : Int) = K + 2 * lensKP d (k + 1)) := Lib.hid (by rw [HQ.out, HNI.out, lensKP]; omega)
        have HO2 : Hid (OwRP w2 lo hi (some ⟨g, 0, none⟩) n c vs (markRP K d (k + 1))) := Lib.hid (by
          rw [← markRP_succ K d k (by have := hlen.out; omega)]
          have hgk : (markRP K d k).getD k [] = d.getD k [] := by rw [markRP_get _ _ _ _ (by have := hlen.out; omega), if_neg (by omega)]
          refine HO.out.turn hlt hk2 HZ.out (by rw [hgk]; exact HE.out) (by rw [HV.out]; exact HBK.out) ?_
          rw [HV.out, mkRowP, ← HQ.out, ← HNI.out]
          exact ⟨by rw [iotaP_length]; exact hsm, _, _, _, rfl, ho2.widen gl gh⟩)
        have HB2 : Hid (Kept lo hi w w2) := Lib.hid (HB.out.trans ⟨hk2.os, hk2.tape, hk2.output, hk2.size, fun i hi' hn' => hk2.block i hi' (by omega)⟩)
        have q3 : Q + 2 * (ni : Int) ≤ 1002097152 := by have := HQ2.out; have := HS.out; omega
        clear ho2 hk2 HO HB htt hc
        go_wp2
        go_roundw
        case rel => exact ⟨k + 1, _, by omega, by go_num, rfl, by omega, q3, HQ2, HO2, HB2⟩
        case measure => simp [intOf] <;> omega
    · have hkn : k = n := by omega
      have HO2 : Hid (OwRP wr lo hi A n c vs (mkPointSS K d)) := Lib.hid (by rw [← markRP_n, hlen.out]; have := HO.out; rw [hkn] at this; exact this)
      have HQ2 : Hid (Q = K + 2 * lensKP d n) := Lib.hid (by rw [← hkn]; exact HQ.out)
      clear HO hkn HQ
      go_wp2
      go_ret
      exact ⟨_, rfl, HQ2, HO2.out, HB.out⟩
/-- the size: the rows and all that they hold -/
def szPointSS (d : List (List (Int × Int))) : Nat := d.length + lensKP d d.length

set_option maxHeartbeats 1000000 in
theorem l_szPointSS (A : Option Addr) (n c hi : Nat) (vs : List Value) (d : List (List (Int × Int))) (left : Int) (w : World) (h : RdRP w hi A n vs d) (hn : n ≤ 9223372036854775807) (hl : 0 ≤ left) (hl2 : left ≤ 1048576) :
    Calls Try.prog 91 #[.slice A n c, .int .i64 left] w fun e w' => ∃ L, e = .returned (.int .i64 L) ∧ Hid (((szPointSS d : Nat) ≤ left → L = left - szPointSS d) ∧ (left < (szPointSS d : Nat) → L = -1)) ∧ w = w' := by
  have hlen := Lib.hid h.2.1
  have H := Lib.hid h
  clear h
  by_cases h0 : (n : Int) ≤ left
  · go_enter Try.func91, Try.ntmps91
    go_wp2
    go_loop [1, 5] (fun l i => ∃ (k : Nat) (L : Int), k ≤ n ∧ i = .int .i64 k ∧ l = .int .i64 L ∧ 0 ≤ L ∧ L ≤ 1048576 ∧ Hid (L = left - n - lensKP d k)) (fun _ i => n - (intOf i).toNat)
    case atStart => exact ⟨0, _, Nat.zero_le _, rfl, rfl, by omega, by omega, Lib.hid (by simp [lensKP])⟩
    case round =>
      obtain ⟨k, L, hk, rfl, rfl, l0, l1, HQ⟩ := hrel
      by_cases hlt : k < n
      · obtain ⟨a, Ai, ni, ci, rfl, hab, hc, hr, hnn, hni⟩ := H.out.row hlt
        have HNI := Lib.hid hni
        clear hr hni
        by_cases hle : (ni : Int) ≤ L
        · have HQ2 : Hid (L - (ni : Int) = left - n - lensKP d (k + 1)) := Lib.hid (by rw [HQ.out, lensKP, ← HNI.out]; omega)
          go_wp2_with fail
          refine (l_szPointS Ai ni ci L _ hnn l0 l1).mono ?_
          rintro e w' ⟨rfl, rfl⟩
          rw [if_pos (by omega)]
          clear HQ
          go_wp2
          go_round
          case rel => exact ⟨k + 1, _, by omega, by go_num, rfl, by omega, by omega, HQ2⟩
          case measure => simp [intOf] <;> omega
        · have HF : Hid (((szPointSS d : Nat) ≤ left → (-1 : Int) = left - szPointSS d) ∧ (left < (szPointSS d : Nat) → (-1 : Int) = -1)) := Lib.hid (by
            have h1 := lensKP_mono d (show k + 1 ≤ n by omega)
            rw [lensKP] at h1
            have h2 := HQ.out
            have h3 := HNI.out
            unfold szPointSS
            rw [hlen.out]
            exact ⟨fun hh => by omega, fun _ => rfl⟩)
          go_wp2_with fail
          refine (l_szPointS Ai ni ci L _ hnn l0 l1).mono ?_
          rintro e w' ⟨rfl, rfl⟩
          rw [if_neg (by omega)]
          clear HQ
          go_wp2
          go_ret
          exact ⟨_, rfl, Lib.hid ⟨HF.out.1, fun _ => rfl⟩, rfl⟩
      · have HF : Hid (((szPointSS d : Nat) ≤ left → L = left - szPointSS d) ∧ (left < (szPointSS d : Nat) → L = -1)) := Lib.hid (by
          have h2 := HQ.out
          rw [show k = n by omega] at h2
          unfold szPointSS
          rw [hlen.out]
          exact ⟨fun hh => by omega, fun hh => by omega⟩)
        clear HQ
        go_wp2
        go_ret
        exact ⟨_, rfl, HF, rfl⟩
  · have HF : Hid (((szPointSS d : Nat) ≤ left → (-1 : Int) = left - szPointSS d) ∧ (left < (szPointSS d : Nat) → (-1 : Int) = -1)) := Lib.hid (by
      unfold szPointSS
      rw [hlen.out]
      exact ⟨fun hh => by omega, fun _ => rfl⟩)
    go_enter Try.func91, Try.ntmps91
    go_wp2
    go_ret
    exact ⟨_, rfl, Lib.hid ⟨HF.out.1, fun _ => rfl⟩, rfl⟩

/-! as whole values -/
def RdPointSS (w : World) (hi : Nat) (v : Value) (d : List (List (Int × Int))) : Prop := ∃ A n c vs, v = .slice A n c ∧ n ≤ 9223372036854775807 ∧ RdRP w hi A n vs d
def OwPointSS (w : World) (lo hi : Nat) (v : Value) (d : List (List (Int × Int))) : Prop := szPointSS d ≤ 1048576 ∧ ∃ A n c vs, v = .slice A n c ∧ OwRP w lo hi A n c vs d
section
variable {w w' : World} {lo hi lo' hi' B mid : Nat} {v : Value} {d : List (List (Int × Int))}
theorem RdPointSS.below (h : RdPointSS w hi v d) (hb : Below hi w w') : RdPointSS w' hi v d := by
  obtain ⟨A, n, c, vs, rfl, hn, r⟩ := h; exact ⟨A, n, c, vs, rfl, hn, r.keep hb⟩
theorem RdPointSS.more (h : RdPointSS w hi v d) (hh : hi ≤ hi') : RdPointSS w hi' v d := by
  obtain ⟨A, n, c, vs, rfl, hn, r⟩ := h; exact ⟨A, n, c, vs, rfl, hn, r.more hh⟩
theorem OwPointSS.small (h : OwPointSS w lo hi v d) : szPointSS d ≤ 1048576 := h.1
theorem OwPointSS.rd (h : OwPointSS w lo hi v d) : RdPointSS w hi v d := by
  obtain ⟨hs, A, n, c, vs, rfl, r⟩ := h
  exact ⟨A, n, c, vs, rfl, by have := r.2.1; unfold szPointSS at hs; omega, r.rd⟩
theorem OwPointSS.below (h : OwPointSS w lo hi v d) (hb : Below B w w') (hz : hi ≤ B) : OwPointSS w' lo hi v d := by
  obtain ⟨hs, A, n, c, vs, rfl, r⟩ := h; exact ⟨hs, A, n, c, vs, rfl, r.below hb hz⟩
theorem OwPointSS.kept (h : OwPointSS w lo hi v d) (hk : Kept lo' mid w w') (hz : hi ≤ w.heap.size) (hd : mid ≤ lo ∨ hi ≤ lo') : OwPointSS w' lo hi v d := by
  obtain ⟨hs, A, n, c, vs, rfl, r⟩ := h; exact ⟨hs, A, n, c, vs, rfl, r.kept hk hz hd⟩
theorem OwPointSS.widen (h : OwPointSS w lo hi v d) (h1 : lo' ≤ lo) (h2 : hi ≤ hi') : OwPointSS w lo' hi' v d := by
  obtain ⟨hs, A, n, c, vs, rfl, r⟩ := h; exact ⟨hs, A, n, c, vs, rfl, r.widen h1 h2⟩
end
theorem OwPointSS.nil_ (w : World) (lo hi : Nat) : OwPointSS w lo hi (.slice none 0 0) [] := ⟨by simp [szPointSS, lensKP], none, 0, 0, [], rfl, ⟨by simp, Nat.le_refl _, .inl rfl⟩, rfl, fun i hi => by omega, fun i j hi => by omega⟩

theorem L_toPointSS (hi : Nat) (v : Value) (d : List (List (Int × Int))) (w : World) (h : RdPointSS w hi v d) (hh : hi ≤ w.heap.size) (hs : szPointSS d ≤ 1048576) :
    Calls Try.prog 92 #[v] w fun e w' => ∃ v', e = .returned v' ∧ OwPointSS w' w.heap.size w'.heap.size v' d ∧ Below w.heap.size w w' := by
  obtain ⟨A, n, c, vs, rfl, _, r⟩ := h
  have hl := r.2.1
  have hs2 := hs
  unfold szPointSS at hs2
  rw [hl] at hs2
  exact (l_toPointSS A n c vs d w (r.more hh) (by omega) (by omega)).mono fun e w' ⟨vs', he, ho, hb⟩ => ⟨_, he, ⟨hs, _, _, _, _, rfl, ho⟩, hb⟩
theorem L_eqPointSS (hi hi' : Nat) (v v' : Value) (d : List (List (Int × Int))) (w : World) (h : RdPointSS w hi v d) (h' : RdPointSS w hi' v' d) (hh : hi ≤ w.heap.size) (hh' : hi' ≤ w.heap.size) (hs : szPointSS d ≤ 1048576) :
    Calls Try.prog 93 #[v, v'] w fun e w' => e = .returned (.bool true) ∧ Below w.heap.size w w' := by
  obtain ⟨A, n, c, vs, rfl, _, r⟩ := h
  obtain ⟨A', n', c', vs', rfl, _, r'⟩ := h'
  have hl := r.2.1
  have hl' := r'.2.1
  obtain rfl : n' = n := by omega
  unfold szPointSS at hs
  rw [hl] at hs
  exact l_eqPointSS A A' _ c c' vs vs' d w (r.more hh) (r'.more hh') (by omega) (by omega)
theorem mkP_lens (K : Int) (d : List (List (Int × Int))) (k : Nat) (h : k ≤ d.length) : lensKP (mkPointSS K d) k = lensKP d k := by
  induction k with
  | zero => rfl
  | succ k ih => rw [lensKP, lensKP, ih (by omega), mkPointSS_get _ _ _ (by omega), mkRowP_len]
theorem mkP_sz (K : Int) (d : List (List (Int × Int))) : szPointSS (mkPointSS K d) = szPointSS d := by unfold szPointSS; rw [mkPointSS_length, mkP_lens _ _ _ (Nat.le_refl _)]
theorem L_markPointSS (lo hi : Nat) (v : Value) (d : List (List (Int × Int))) (K : Int) (w : World) (h : OwPointSS w lo hi v d) (hz : hi ≤ w.heap.size) (hK : 0 ≤ K) (hK2 : K ≤ 1000000000) :
    Calls Try.prog 94 #[v, .int .i64 K] w fun e w' => ∃ K', e = .returned (.int .i64 K') ∧ Hid (K' = K + (2 * lensKP d d.length : Nat)) ∧ 0 ≤ K' ∧ K' ≤ K + 2097152 ∧ OwPointSS w' lo hi v (mkPointSS K d) ∧ Kept lo hi w w' := by
  obtain ⟨hs, A, n, c, vs, rfl, r⟩ := h
  have hl := r.2.1
  have hs2 := hs
  unfold szPointSS at hs2
  rw [hl] at hs2 ⊢
  refine (l_markPointSS A n c lo hi vs d K w r hz (by omega) (by omega) hK hK2).mono fun e w' ⟨K', he, hk, ho, hkp⟩ => ⟨K', he, hk, ?_, ?_, ⟨by rw [mkP_sz]; exact hs, _, _, _, _, rfl, ho⟩, hkp⟩
  · have := hk.out; omega
  · have := hk.out; omega
theorem L_szPointSS_ok (hi : Nat) (v : Value) (d : List (List (Int × Int))) (left : Int) (w : World) (h : RdPointSS w hi v d) (hl0 : 0 ≤ left) (hl1 : left ≤ 1048576) (hl : (szPointSS d : Nat) ≤ left) :
    Calls Try.prog 91 #[v, .int .i64 left] w fun e w' => ∃ L', e = .returned (.int .i64 L') ∧ Hid (L' = left - szPointSS d) ∧ 0 ≤ L' ∧ L' ≤ left ∧ Below w.heap.size w w' := by
  obtain ⟨A, n, c, vs, rfl, hn, r⟩ := h
  refine (l_szPointSS A n c hi vs d left w r hn hl0 hl1).mono fun e w' ⟨L, he, hL, hw⟩ => ⟨L, he, Lib.hid (hL.out.1 hl), ?_, ?_, hw ▸ Below.refl _ _⟩
  · have := hL.out.1 hl; omega
  · have := hL.out.1 hl; omega
theorem L_szPointSS_no (hi : Nat) (v : Value) (d : List (List (Int × Int))) (left : Int) (w : World) (h : RdPointSS w hi v d) (hl0 : 0 ≤ left) (hl1 : left ≤ 1048576) (hl : left < (szPointSS d : Nat)) :
    Calls Try.prog 91 #[v, .int .i64 left] w fun e w' => e = .returned (.int .i64 (-1)) ∧ Below w.heap.size w w' := by
  obtain ⟨A, n, c, vs, rfl, hn, r⟩ := h
  refine (l_szPointSS A n c hi vs d left w r hn hl0 hl1).mono fun e w' ⟨L, he, hL, hw⟩ => ⟨?_, hw ▸ Below.refl _ _⟩
  rw [he, hL.out.2 hl]
end Go.Proofs.Ytbmjepmlalfpgaa

/- The struct Run: what reads, what is owned; the laws' helpers. Made by tools/gencomp.py. -/
namespace Go.Proofs.Ytbmjepmlalfpgaa
open Go.RowKit
set_option maxRecDepth 100000
def RdRun (w : World) (hi : Nat) (v : Value) (d : List (List (Int × Int)) × List Int) : Prop :=
  ∃ A0 n0 c0 A1 n1 c1, v = .agg #[.slice A0 n0 c0, .slice A1 n1 c1] ∧ RdPointSS w hi (.slice A0 n0 c0) (d.1) ∧ RdIntS w hi (.slice A1 n1 c1) (d.2)
def szRun (d : List (List (Int × Int)) × List Int) : Nat := szPointSS (d.1) + szIntS (d.2)
def cntRun (d : List (List (Int × Int)) × List Int) : Nat := 2 * lensKP (d.1) ((d.1)).length + szIntS (d.2)
def OwRun (w : World) (lo hi : Nat) (v : Value) (d : List (List (Int × Int)) × List Int) : Prop :=
  szRun d ≤ 1048576 ∧ ∃ A0 n0 c0 A1 n1 c1 s0 t0 s1 t1, v = .agg #[.slice A0 n0 c0, .slice A1 n1 c1] ∧ lo ≤ s0 ∧ lo ≤ s1 ∧ t0 ≤ hi ∧ t1 ≤ hi ∧ (t0 ≤ s1 ∨ t1 ≤ s0) ∧ OwPointSS w s0 t0 (.slice A0 n0 c0) (d.1) ∧ OwIntS w s1 t1 (.slice A1 n1 c1) (d.2)
def mkRun (K : Int) (d : List (List (Int × Int)) × List Int) : List (List (Int × Int)) × List Int := (mkPointSS (K) (d.1), mkIntS (K + (2 * lensKP (d.1) ((d.1)).length : Nat)) (d.2))
section
variable {w w' : World} {lo hi lo' hi' B mid : Nat} {v : Value} {d : List (List (Int × Int)) × List Int}
theorem RdRun.below (h : RdRun w hi v d) (hb : Below hi w w') : RdRun w' hi v d := by
  obtain ⟨A0, n0, c0, A1, n1, c1, rfl, h0, h1⟩ := h; exact ⟨A0, n0, c0, A1, n1, c1, rfl, h0.below hb, h1.below hb⟩
theorem RdRun.more (h : RdRun w hi v d) (hh : hi ≤ hi') : RdRun w hi' v d := by
  obtain ⟨A0, n0, c0, A1, n1, c1, rfl, h0, h1⟩ := h; exact ⟨A0, n0, c0, A1, n1, c1, rfl, h0.more hh, h1.more hh⟩
theorem OwRun.small (h : OwRun w lo hi v d) : szRun d ≤ 1048576 := h.1
theorem OwRun.rd (h : OwRun w lo hi v d) : RdRun w hi v d := by
  obtain ⟨_, A0, n0, c0, A1, n1, c1, s0, t0, s1, t1, rfl, l0, l1, l2, l3, l4, h0, h1⟩ := h; exact ⟨A0, n0, c0, A1, n1, c1, rfl, h0.rd.more (by omega), h1.rd.more (by omega)⟩
theorem OwRun.below (h : OwRun w lo hi v d) (hb : Below B w w') (hz : hi ≤ B) : OwRun w' lo hi v d := by
  obtain ⟨hsz, A0, n0, c0, A1, n1, c1, s0, t0, s1, t1, rfl, l0, l1, l2, l3, l4, h0, h1⟩ := h; exact ⟨hsz, A0, n0, c0, A1, n1, c1, s0, t0, s1, t1, rfl, l0, l1, l2, l3, l4, h0.below hb (by omega), h1.below hb (by omega)⟩
theorem OwRun.kept (h : OwRun w lo hi v d) (hk : Kept lo' mid w w') (hz : hi ≤ w.heap.size) (hd : mid ≤ lo ∨ hi ≤ lo') : OwRun w' lo hi v d := by
  obtain ⟨hsz, A0, n0, c0, A1, n1, c1, s0, t0, s1, t1, rfl, l0, l1, l2, l3, l4, h0, h1⟩ := h; exact ⟨hsz, A0, n0, c0, A1, n1, c1, s0, t0, s1, t1, rfl, l0, l1, l2, l3, l4, h0.kept hk (by omega) (by omega), h1.kept hk (by omega) (by omega)⟩
theorem OwRun.widen (h : OwRun w lo hi v d) (h1 : lo' ≤ lo) (h2 : hi ≤ hi') : OwRun w lo' hi' v d := by
  obtain ⟨hsz, A0, n0, c0, A1, n1, c1, s0, t0, s1, t1, rfl, l0, l1, l2, l3, l4, r0, r1⟩ := h; exact ⟨hsz, A0, n0, c0, A1, n1, c1, s0, t0, s1, t1, rfl, by omega, by omega, by omega, by omega, by omega, r0, r1⟩
end

set_option maxHeartbeats 2000000 in
theorem L_toRun (hi : Nat) (v : Value) (d : List (List (Int × Int)) × List Int) (w : World) (h : RdRun w hi v d) (hh : hi ≤ w.heap.size) (hs : szRun d ≤ 1048576) :
    Calls Try.prog 51 #[v] w fun e w' => ∃ v', e = .returned v' ∧ OwRun w' w.heap.size w'.heap.size v' d ∧ Below w.heap.size w w' := by
  obtain ⟨A0, n0, c0, A1, n1, c1, rfl, h0, h1⟩ := h
  obtain ⟨d0, d1⟩ := d
  have hs0 : szPointSS d0 ≤ 1048576 := by unfold szRun at hs; simp only at hs; omega
  have hs1 : szIntS d1 ≤ 1048576 := by unfold szRun at hs; simp only at hs; omega
  have H0 := Lib.hid h0
  clear h0
  have H1 := Lib.hid h1
  clear h1
  go_enter Try.func51, Try.ntmps51
  go_wp2_with fail
  obtain ⟨W0, hW0⟩ : ∃ W, Hid ((((w.alloc (.cells #[Value.slice A0 n0 c0, Value.slice A1 n1 c1] 68)).alloc (.cells #[Value.slice none 0 0, Value.slice none 0 0] 73)).alloc (.cells #[Value.slice none 0 0, Value.slice none 0 0] 73)) = W) := ⟨_, Lib.hid rfl⟩
  have HB0 : Hid (Below w.heap.size w W0) := Lib.hid (by rw [← hW0.out]; exact (((Below.refl _ _).alloc (Nat.le_refl _) _).alloc (by simp) _).alloc (by simp; omega) _)
  have Z0 : W0.heap.size = w.heap.size + 1 + 1 + 1 := by rw [← hW0.out]; simp only [World.size_alloc]
  have X0 : Hid (Bx W0 (w.heap.size) #[Value.slice A0 n0 c0, Value.slice A1 n1 c1] 68) := Lib.hid (by rw [← hW0.out]; exact ((Bx.new w _ _).alloc _).alloc _)
  have X1 : Hid (Bx W0 (w.heap.size + 1) #[Value.slice none 0 0, Value.slice none 0 0] 73) := Lib.hid (by rw [← hW0.out]; have := (Bx.new (w.alloc (.cells #[Value.slice A0 n0 c0, Value.slice A1 n1 c1] 68)) #[Value.slice none 0 0, Value.slice none 0 0] 73); rw [World.size_alloc] at this; exact this.alloc _)
  have X2 : Hid (Bx W0 (w.heap.size + 1 + 1) #[Value.slice none 0 0, Value.slice none 0 0] 73) := Lib.hid (by rw [← hW0.out]; have := (Bx.new ((w.alloc (.cells #[Value.slice A0 n0 c0, Value.slice A1 n1 c1] 68)).alloc (.cells #[Value.slice none 0 0, Value.slice none 0 0] 73)) #[Value.slice none 0 0, Value.slice none 0 0] 73); rw [World.size_alloc, World.size_alloc] at this; exact this)
  rw [hW0.out]
  clear hW0
  refine (L_toPointSS hi _ d0 W0 (H0.out.below (HB0.out.mono hh)) (by have := HB0.out.size; omega) hs0).mono ?_
  rintro e w1 ⟨v0, rfl, ho, hb⟩
  obtain ⟨B0, k0, q0, hv⟩ : ∃ B k q, v0 = .slice B k q := by obtain ⟨_, B, k, q, _, rfl, _⟩ := ho; exact ⟨_, _, _, rfl⟩
  subst hv
  have O0 := Lib.hid ho
  have HB1 : Hid (Below w.heap.size w w1) := Lib.hid (HB0.out.trans (hb.mono HB0.out.size))
  have Z1 := hb.size
  replace X0 := Lib.hid (X0.out.below hb X0.out.lt)
  replace X1 := Lib.hid (X1.out.below hb X1.out.lt)
  replace X2 := Lib.hid (X2.out.below hb X2.out.lt)
  clear ho hb
  have g0 : w1.cell? ⟨w.heap.size + 1 + 1, 0, none⟩ = some (Value.slice none 0 0) := X2.out.cell 0
  have f0 : w1.frozen? ⟨w.heap.size + 1 + 1, 0, none⟩ = false := X2.out.free 0
  replace X0 := Lib.hid (X0.out.other ⟨w.heap.size + 1 + 1, 0, none⟩ (Value.slice B0 k0 q0) (by simp; omega))
  replace X1 := Lib.hid (X1.out.other ⟨w.heap.size + 1 + 1, 0, none⟩ (Value.slice B0 k0 q0) (by simp))
  replace X2 := Lib.hid (X2.out.set 0 (Value.slice B0 k0 q0))
  have l1 : (w1.setCell ⟨w.heap.size + 1 + 1, 0, none⟩ (Value.slice B0 k0 q0)).cell? ⟨w.heap.size, 1, none⟩ = some (Value.slice A1 n1 c1) := X0.out.cell 1
  obtain ⟨W1, hW⟩ : ∃ W, Hid ((w1.setCell ⟨w.heap.size + 1 + 1, 0, none⟩ (Value.slice B0 k0 q0)) = W) := ⟨_, Lib.hid rfl⟩
  have hk : Kept (w.heap.size + 1 + 1) (w.heap.size + 1 + 1 + 1) w1 W1 := by rw [← hW.out]; exact ((Kept.refl (w.heap.size + 1 + 1) (w.heap.size + 1 + 1 + 1) w1).setCell (p := ⟨w.heap.size + 1 + 1, 0, none⟩) (Nat.le_refl _) (Nat.lt_succ_self _) (Value.slice B0 k0 q0))
  have HB2 : Hid (Below w.heap.size w W1) := Lib.hid (HB1.out.trans ((hk.to_below (by omega)).mono (by omega)))
  have Z2 := hk.size
  replace O0 := Lib.hid (O0.out.kept hk (by omega) (by omega))
  rw [hW.out] at X0
  rw [hW.out] at X1
  rw [hW.out] at X2
  clear hk
  go_wp2_with fail
  rw [hW.out]
  clear hW g0 f0 l1
  refine (L_toIntS hi _ d1 W1 (H1.out.below (HB2.out.mono hh)) (by have := HB2.out.size; omega) hs1).mono ?_
  rintro e w2 ⟨v1, rfl, ho, hb⟩
  obtain ⟨B1, k1, q1, hv⟩ : ∃ B k q, v1 = .slice B k q := by obtain ⟨_, B, k, q, rfl, _⟩ := ho; exact ⟨_, _, _, rfl⟩
  subst hv
  have O1 := Lib.hid ho
  have HB3 : Hid (Below w.heap.size w w2) := Lib.hid (HB2.out.trans (hb.mono HB2.out.size))
  have Z3 := hb.size
  replace X0 := Lib.hid (X0.out.below hb X0.out.lt)
  replace X1 := Lib.hid (X1.out.below hb X1.out.lt)
  replace X2 := Lib.hid (X2.out.below hb X2.out.lt)
  replace O0 := Lib.hid (O0.out.below hb (by omega))
  clear ho hb
  have Y1 := Lib.hid X1.out
  have g1 : w2.cell? ⟨w.heap.size + 1 + 1, 1, none⟩ = some (Value.slice none 0 0) := X2.out.cell 1
  have f1 : w2.frozen? ⟨w.heap.size + 1 + 1, 1, none⟩ = false := X2.out.free 1
  replace X0 := Lib.hid (X0.out.other ⟨w.heap.size + 1 + 1, 1, none⟩ (Value.slice B1 k1 q1) (by simp; omega))
  replace X1 := Lib.hid (X1.out.other ⟨w.heap.size + 1 + 1, 1, none⟩ (Value.slice B1 k1 q1) (by simp))
  replace X2 := Lib.hid (X2.out.set 1 (Value.slice B1 k1 q1))
  obtain ⟨W2, hW⟩ : ∃ W, Hid ((w2.setCell ⟨w.heap.size + 1 + 1, 1, none⟩ (Value.slice B1 k1 q1)) = W) := ⟨_, Lib.hid rfl⟩
  have hk : Kept (w.heap.size + 1 + 1) (w.heap.size + 1 + 1 + 1) w2 W2 := by rw [← hW.out]; exact ((Kept.refl (w.heap.size + 1 + 1) (w.heap.size + 1 + 1 + 1) w2).setCell (p := ⟨w.heap.size + 1 + 1, 1, none⟩) (Nat.le_refl _) (Nat.lt_succ_self _) (Value.slice B1 k1 q1))
  have HB4 : Hid (Below w.heap.size w W2) := Lib.hid (HB3.out.trans ((hk.to_below (by omega)).mono (by omega)))
  have Z4 := hk.size
  replace O0 := Lib.hid (O0.out.kept hk (by omega) (by omega))
  replace O1 := Lib.hid (O1.out.kept hk (by omega) (by omega))
  rw [hW.out] at X0
  rw [hW.out] at X1
  rw [hW.out] at X2
  have y0 : w2.cell? ⟨w.heap.size + 1, 0, none⟩ = some (Value.slice none 0 0) := Y1.out.cell 0
  have v0 : w2.frozen? ⟨w.heap.size + 1, 0, none⟩ = false := Y1.out.free 0
  have y1 : w2.cell? ⟨w.heap.size + 1, 1, none⟩ = some (Value.slice none 0 0) := Y1.out.cell 1
  have v1 : w2.frozen? ⟨w.heap.size + 1, 1, none⟩ = false := Y1.out.free 1
  have r0 : (w2.setCell ⟨w.heap.size + 1 + 1, 1, none⟩ (Value.slice B1 k1 q1)).cell? ⟨w.heap.size + 1 + 1, 0, none⟩ = some (Value.slice B0 k0 q0) := by rw [hW.out]; exact X2.out.cell 0
  have r1 : (w2.setCell ⟨w.heap.size + 1 + 1, 1, none⟩ (Value.slice B1 k1 q1)).cell? ⟨w.heap.size + 1 + 1, 1, none⟩ = some (Value.slice B1 k1 q1) := by rw [hW.out]; exact X2.out.cell 1
  clear hk
  go_wp2_with fail
  rw [hW.out]
  clear hW g1 f1 r0 r1 y0 v0 y1 v1
  obtain ⟨WF, hF⟩ : ∃ W, Hid (((W2.setCell ⟨w.heap.size + 1, 0, none⟩ (Value.slice B0 k0 q0)).setCell ⟨w.heap.size + 1, 1, none⟩ (Value.slice B1 k1 q1)) = W) := ⟨_, Lib.hid rfl⟩
  have XF : Hid (Bx WF (w.heap.size + 1) (#[Value.slice B0 k0 q0, Value.slice B1 k1 q1]) 73) := Lib.hid (by rw [← hF.out]; exact ((X1.out.set 0 (Value.slice B0 k0 q0)).set 1 (Value.slice B1 k1 q1)))
  have hk : Kept (w.heap.size + 1) (w.heap.size + 1 + 1) W2 WF := by rw [← hF.out]; exact (((Kept.refl (w.heap.size + 1) (w.heap.size + 1 + 1) W2).setCell (p := ⟨w.heap.size + 1, 0, none⟩) (Nat.le_refl _) (Nat.lt_succ_self _) (Value.slice B0 k0 q0)).setCell (p := ⟨w.heap.size + 1, 1, none⟩) (Nat.le_refl _) (Nat.lt_succ_self _) (Value.slice B1 k1 q1))
  have HBF : Below w.heap.size w WF := HB4.out.trans ((hk.to_below (by omega)).mono (by omega))
  have zf := hk.size
  have s0 : WF.cell? ⟨w.heap.size + 1, 0, none⟩ = some (Value.slice B0 k0 q0) := XF.out.cell 0
  have s1 : WF.cell? ⟨w.heap.size + 1, 1, none⟩ = some (Value.slice B1 k1 q1) := XF.out.cell 1
  rw [hF.out]
  refine bodyPost_ret (v := .agg #[Value.slice B0 k0 q0, Value.slice B1 k1 q1]) (by simp [results, Try.results51, go_sem, s0, s1]) rfl ⟨_, rfl, ⟨hs, _, _, _, _, _, _, W0.heap.size, w1.heap.size, W1.heap.size, w2.heap.size, rfl, ?_⟩, HBF⟩
  exact ⟨by omega, by omega, by omega, by omega, by omega, O0.out.kept hk (by omega) (by omega), O1.out.kept hk (by omega) (by omega)⟩

set_option maxHeartbeats 2000000 in
theorem L_eqRun (hi hi' : Nat) (v v' : Value) (d : List (List (Int × Int)) × List Int) (w : World) (h : RdRun w hi v d) (h' : RdRun w hi' v' d) (hh : hi ≤ w.heap.size) (hh' : hi' ≤ w.heap.size) (hs : szRun d ≤ 1048576) :
    Calls Try.prog 53 #[v, v'] w fun e w' => e = .returned (.bool true) ∧ Below w.heap.size w w' := by
  obtain ⟨A0, n0, c0, A1, n1, c1, rfl, h0, h1⟩ := h
  obtain ⟨A0', n0', c0', A1', n1', c1', rfl, j0, j1⟩ := h'
  obtain ⟨d0, d1⟩ := d
  have hs0 : szPointSS d0 ≤ 1048576 := by unfold szRun at hs; simp only at hs; omega
  have hs1 : szIntS d1 ≤ 1048576 := by unfold szRun at hs; simp only at hs; omega
  have H0 := Lib.hid h0
  have J0 := Lib.hid j0
  clear h0 j0
  have H1 := Lib.hid h1
  have J1 := Lib.hid j1
  clear h1 j1
  go_enter Try.func53, Try.ntmps53
  go_wp2_with fail
  obtain ⟨W0, hW0⟩ : ∃ W, Hid (((w.alloc (.cells #[Value.slice A0 n0 c0, Value.slice A1 n1 c1] 73)).alloc (.cells #[Value.slice A0' n0' c0', Value.slice A1' n1' c1'] 73)) = W) := ⟨_, Lib.hid rfl⟩
  have HB0 : Hid (Below w.heap.size w W0) := Lib.hid (by rw [← hW0.out]; exact ((Below.refl _ _).alloc (Nat.le_refl _) _).alloc (by simp) _)
  have Z0 : W0.heap.size = w.heap.size + 1 + 1 := by rw [← hW0.out]; simp only [World.size_alloc]
  have X0 : Hid (Bx W0 (w.heap.size) #[Value.slice A0 n0 c0, Value.slice A1 n1 c1] 73) := Lib.hid (by rw [← hW0.out]; exact (Bx.new w _ _).alloc _)
  have X1 : Hid (Bx W0 (w.heap.size + 1) #[Value.slice A0' n0' c0', Value.slice A1' n1' c1'] 73) := Lib.hid (by rw [← hW0.out]; have := (Bx.new (w.alloc (.cells #[Value.slice A0 n0 c0, Value.slice A1 n1 c1] 73)) #[Value.slice A0' n0' c0', Value.slice A1' n1' c1'] 73); rw [World.size_alloc] at this; exact this)
  rw [hW0.out]
  clear hW0
  refine (L_eqPointSS hi hi' _ _ d0 _ (H0.out.below (HB0.out.mono hh)) (J0.out.below (HB0.out.mono hh')) (by have := HB0.out.size; omega) (by have := HB0.out.size; omega) hs0).mono ?_
  rintro e w1 ⟨rfl, hb⟩
  have HB1 : Hid (Below w.heap.size w w1) := Lib.hid (HB0.out.trans (hb.mono HB0.out.size))
  replace X0 := Lib.hid (X0.out.below hb X0.out.lt)
  replace X1 := Lib.hid (X1.out.below hb X1.out.lt)
  clear hb
  have l1 : w1.cell? ⟨w.heap.size, 1, none⟩ = some (Value.slice A1 n1 c1) := X0.out.cell 1
  have r1 : w1.cell? ⟨w.heap.size + 1, 1, none⟩ = some (Value.slice A1' n1' c1') := X1.out.cell 1
  go_wp2_with fail
  refine (L_eqIntS hi hi' _ _ d1 _ (H1.out.below (HB1.out.mono hh)) (J1.out.below (HB1.out.mono hh')) (by have := HB1.out.size; omega) (by have := HB1.out.size; omega) hs1).mono ?_
  rintro e w2 ⟨rfl, hb⟩
  have HB2 : Hid (Below w.heap.size w w2) := Lib.hid (HB1.out.trans (hb.mono HB1.out.size))
  replace X0 := Lib.hid (X0.out.below hb X0.out.lt)
  replace X1 := Lib.hid (X1.out.below hb X1.out.lt)
  clear hb
  go_wp2
  go_ret
  exact ⟨rfl, HB2.out⟩

set_option maxHeartbeats 2000000 in
theorem L_szRun_ok (hi : Nat) (v : Value) (d : List (List (Int × Int)) × List Int) (left : Int) (w : World) (h : RdRun w hi v d) (hh : hi ≤ w.heap.size) (hl0 : 0 ≤ left) (hl1 : left ≤ 1048576) (hl : (szRun d : Nat) ≤ left) :
    Calls Try.prog 49 #[v, .int .i64 left] w fun e w' => ∃ L', e = .returned (.int .i64 L') ∧ Hid (L' = left - szRun d) ∧ 0 ≤ L' ∧ L' ≤ left ∧ Below w.heap.size w w' := by
  obtain ⟨A0, n0, c0, A1, n1, c1, rfl, h0, h1⟩ := h
  obtain ⟨d0, d1⟩ := d
  have hl2 := Lib.hid hl
  clear hl
  unfold szRun at hl2 ⊢
  simp only at hl2 ⊢
  have H0 := Lib.hid h0
  clear h0
  have H1 := Lib.hid h1
  clear h1
  go_enter Try.func49, Try.ntmps49
  go_wp2_with fail
  obtain ⟨W0, hW0⟩ : ∃ W, Hid ((w.alloc (.cells #[Value.slice A0 n0 c0, Value.slice A1 n1 c1] 68)) = W) := ⟨_, Lib.hid rfl⟩
  have HB0 : Hid (Below w.heap.size w W0) := Lib.hid (by rw [← hW0.out]; exact (Below.refl _ _).alloc (Nat.le_refl _) _)
  have Z0 : W0.heap.size = w.heap.size + 1 := by rw [← hW0.out]; simp only [World.size_alloc]
  have X0 : Hid (Bx W0 (w.heap.size) #[Value.slice A0 n0 c0, Value.slice A1 n1 c1] 68) := Lib.hid (by rw [← hW0.out]; exact Bx.new w _ _)
  rw [hW0.out]
  clear hW0
  refine (L_szPointSS_ok _ _ d0 left _ (H0.out.below (HB0.out.mono hh)) (by omega) (by omega) (by have := hl2.out; omega)).mono ?_
  rintro e w1 ⟨L1, rfl, hL1, p1, q1, hb⟩
  have HB1 : Hid (Below w.heap.size w w1) := Lib.hid (HB0.out.trans (hb.mono HB0.out.size))
  replace X0 := Lib.hid (X0.out.below hb X0.out.lt)
  clear hb
  have l1 : w1.cell? ⟨w.heap.size, 1, none⟩ = some (Value.slice A1 n1 c1) := X0.out.cell 1
  go_wp2_with fail
  refine (L_szIntS_ok _ _ d1 L1 _ (H1.out.below (HB1.out.mono hh)) (by omega) (by omega) (by have := hl2.out; have := hL1.out; omega)).mono ?_
  rintro e w2 ⟨L2, rfl, hL2, p2, q2, hb⟩
  have HB2 : Hid (Below w.heap.size w w2) := Lib.hid (HB1.out.trans (hb.mono HB1.out.size))
  replace X0 := Lib.hid (X0.out.below hb X0.out.lt)
  clear hb
  go_wp2
  go_ret
  exact ⟨_, rfl, Lib.hid (by have := hL1.out; have := hL2.out; omega), by omega, by omega, HB2.out⟩

set_option maxHeartbeats 4000000 in
theorem L_szRun_no (hi : Nat) (v : Value) (d : List (List (Int × Int)) × List Int) (left : Int) (w : World) (h : RdRun w hi v d) (hh : hi ≤ w.heap.size) (hl0 : 0 ≤ left) (hl1 : left ≤ 1048576) (hl : left < (szRun d : Nat)) :
    Calls Try.prog 49 #[v, .int .i64 left] w fun e w' => e = .returned (.int .i64 (-1)) ∧ Below w.heap.size w w' := by
  obtain ⟨A0, n0, c0, A1, n1, c1, rfl, h0, h1⟩ := h
  obtain ⟨d0, d1⟩ := d
  have hl2 := Lib.hid hl
  clear hl
  unfold szRun at hl2
  simp only at hl2
  have H0 := Lib.hid h0
  clear h0
  have H1 := Lib.hid h1
  clear h1
  by_cases hc1 : left < ((szPointSS d0 : Nat) : Int)
  · go_enter Try.func49, Try.ntmps49
    go_wp2_with fail
    obtain ⟨W0, hW0⟩ : ∃ W, Hid ((w.alloc (.cells #[Value.slice A0 n0 c0, Value.slice A1 n1 c1] 68)) = W) := ⟨_, Lib.hid rfl⟩
    have HB0 : Hid (Below w.heap.size w W0) := Lib.hid (by rw [← hW0.out]; exact (Below.refl _ _).alloc (Nat.le_refl _) _)
    have Z0 : W0.heap.size = w.heap.size + 1 := by rw [← hW0.out]; simp only [World.size_alloc]
    have X0 : Hid (Bx W0 (w.heap.size) #[Value.slice A0 n0 c0, Value.slice A1 n1 c1] 68) := Lib.hid (by rw [← hW0.out]; exact Bx.new w _ _)
    rw [hW0.out]
    clear hW0
    refine (L_szPointSS_no _ _ d0 left _ (H0.out.below (HB0.out.mono hh)) (by omega) (by omega) (by have := hl2.out; omega)).mono ?_
    rintro e w1 ⟨rfl, hb⟩
    have HB1 : Hid (Below w.heap.size w w1) := Lib.hid (HB0.out.trans (hb.mono HB0.out.size))
    clear hb
    go_wp2
    go_ret
    exact ⟨rfl, HB1.out⟩
  · go_enter Try.func49, Try.ntmps49
    go_wp2_with fail
    obtain ⟨W0, hW0⟩ : ∃ W, Hid ((w.alloc (.cells #[Value.slice A0 n0 c0, Value.slice A1 n1 c1] 68)) = W) := ⟨_, Lib.hid rfl⟩
    have HB0 : Hid (Below w.heap.size w W0) := Lib.hid (by rw [← hW0.out]; exact (Below.refl _ _).alloc (Nat.le_refl _) _)
    have Z0 : W0.heap.size = w.heap.size + 1 := by rw [← hW0.out]; simp only [World.size_alloc]
    have X0 : Hid (Bx W0 (w.heap.size) #[Value.slice A0 n0 c0, Value.slice A1 n1 c1] 68) := Lib.hid (by rw [← hW0.out]; exact Bx.new w _ _)
    rw [hW0.out]
    clear hW0
    refine (L_szPointSS_ok _ _ d0 left _ (H0.out.below (HB0.out.mono hh)) (by omega) (by omega) (by have := hl2.out; omega)).mono ?_
    rintro e w1 ⟨L1, rfl, hL1, p1, q1, hb⟩
    have HB1 : Hid (Below w.heap.size w w1) := Lib.hid (HB0.out.trans (hb.mono HB0.out.size))
    replace X0 := Lib.hid (X0.out.below hb X0.out.lt)
    clear hb
    have l1 : w1.cell? ⟨w.heap.size, 1, none⟩ = some (Value.slice A1 n1 c1) := X0.out.cell 1
    go_wp2_with fail
    refine (L_szIntS_no _ _ d1 L1 _ (H1.out.below (HB1.out.mono hh)) (by omega) (by omega) (by have := hl2.out; have := hL1.out; omega)).mono ?_
    rintro e w2 ⟨rfl, hb⟩
    have HB2 : Hid (Below w.heap.size w w2) := Lib.hid (HB1.out.trans (hb.mono HB1.out.size))
    clear hb
    go_wp2
    go_ret
    exact ⟨rfl, HB2.out⟩

theorem sz_mkRun (K : Int) (d : List (List (Int × Int)) × List Int) : szRun (mkRun K d) = szRun d := by
  simp only [szRun, mkRun, szIntS, mkIntS, mkP_sz, iota_length]
set_option maxHeartbeats 2000000 in
theorem L_markRun (lo hi : Nat) (v : Value) (d : List (List (Int × Int)) × List Int) (K : Int) (w : World) (h : OwRun w lo hi v d) (_hz : hi ≤ w.heap.size) (hK : 0 ≤ K) (hK2 : K ≤ 900000000) :
    Calls Try.prog 54 #[v, .int .i64 K] w fun e w' => ∃ K', e = .returned (.int .i64 K') ∧ Hid (K' = K + cntRun d) ∧ 0 ≤ K' ∧ K' ≤ K + 3145728 ∧ OwRun w' lo hi v (mkRun K d) ∧ Kept lo hi w w' := by
  obtain ⟨hsz, A0, n0, c0, A1, n1, c1, s0, t0, s1, t1, rfl, l0, l1, l2, l3, l4, h0, h1⟩ := h
  obtain ⟨d0, d1⟩ := d
  have H0 := Lib.hid h0
  clear h0
  have H1 := Lib.hid h1
  clear h1
  go_enter Try.func54, Try.ntmps54
  go_wp2_with fail
  obtain ⟨W0, hW0⟩ : ∃ W, Hid ((w.alloc (.cells #[Value.slice A0 n0 c0, Value.slice A1 n1 c1] 73)) = W) := ⟨_, Lib.hid rfl⟩
  have HB0 : Hid (Below w.heap.size w W0) := Lib.hid (by rw [← hW0.out]; exact (Below.refl _ _).alloc (Nat.le_refl _) _)
  have Z0 : W0.heap.size = w.heap.size + 1 := by rw [← hW0.out]; simp only [World.size_alloc]
  have X0 : Hid (Bx W0 (w.heap.size) #[Value.slice A0 n0 c0, Value.slice A1 n1 c1] 73) := Lib.hid (by rw [← hW0.out]; exact Bx.new w _ _)
  rw [hW0.out]
  clear hW0
  have HK0 : Hid (Kept lo hi w W0) := Lib.hid ⟨HB0.out.os, HB0.out.tape, HB0.out.output, HB0.out.size, fun k hk _ => HB0.out.block k hk⟩
  replace H0 := Lib.hid (H0.out.below HB0.out (by omega))
  replace H1 := Lib.hid (H1.out.below HB0.out (by omega))
  refine (L_markPointSS _ _ _ d0 K _ H0.out (by have := HK0.out.size; omega) (by omega) (by omega)).mono ?_
  rintro e w1 ⟨K1, rfl, hK1, p1, q1, ho, hk⟩
  have HK1 : Hid (Kept lo hi w w1) := Lib.hid (HK0.out.trans ⟨hk.os, hk.tape, hk.output, hk.size, fun k h1 h2 => hk.block k h1 (by omega)⟩)
  replace X0 := Lib.hid (X0.out.kept hk (by omega))
  replace H1 := Lib.hid (H1.out.kept hk (by have := HK0.out.size; omega) (by omega))
  replace H0 := Lib.hid ho
  clear ho hk
  have l1 : w1.cell? ⟨w.heap.size, 1, none⟩ = some (Value.slice A1 n1 c1) := X0.out.cell 1
  go_wp2_with fail
  refine (L_markIntS _ _ _ d1 K1 _ H1.out (by have := HK1.out.size; omega) (by omega) (by omega)).mono ?_
  rintro e w2 ⟨K2, rfl, hK2, p2, q2, ho, hk⟩
  have HK2 : Hid (Kept lo hi w w2) := Lib.hid (HK1.out.trans ⟨hk.os, hk.tape, hk.output, hk.size, fun k h1 h2 => hk.block k h1 (by omega)⟩)
  replace X0 := Lib.hid (X0.out.kept hk (by omega))
  replace H0 := Lib.hid (H0.out.kept hk (by have := HK1.out.size; omega) (by omega))
  replace H1 := Lib.hid ho
  clear ho hk
  have e1 : Hid (K1 = K + ((2 * lensKP d0 (d0).length : Nat) : Int)) := Lib.hid (by have := hK1.out; omega)
  have e2 : Hid (K2 = K + ((2 * lensKP d0 (d0).length : Nat) : Int) + ((szIntS d1 : Nat) : Int)) := Lib.hid (by have := hK1.out; have := hK2.out; omega)
  go_wp2
  go_ret
  refine ⟨_, rfl, Lib.hid (by rw [e2.out]; simp only [cntRun]; omega), by omega, by omega, ⟨(by rw [sz_mkRun]; exact hsz), A0, n0, c0, A1, n1, c1, s0, t0, s1, t1, rfl, by omega, by omega, by omega, by omega, by omega, H0.out, by have := H1.out; rw [e1.out] at this; exact this⟩, HK2.out⟩

end Go.Proofs.Ytbmjepmlalfpgaa

/- Chapter 9: PartiesSeen of both sides. -/
namespace Go.Proofs.Ytbmjepmlalfpgaa
open Go.RowKit
set_option maxRecDepth 100000

/-- the first k gates have a share of party p -/
def shownB (d : List (List (Int × Int))) (p : Int) : Nat → Bool
  | 0 => true
  | k + 1 => shownB d p k && inB p 1 (d.getD k []).length
def shownK (d : List (List (Int × Int))) (p : Int) : Nat → List Int
  | 0 => []
  | k + 1 => shownK d p k ++ [((d.getD k []).getD (p - 1).toNat (0, 0)).2]
def R_PartiesSeen_0 (d : List (List (Int × Int)) × List Int) (p : Int) : List Int := if shownB d.1 p d.1.length then shownK d.1 p d.1.length else []
theorem shownB_mono {d : List (List (Int × Int))} {p : Int} {k n : Nat} (h : shownB d p n = true) (hk : k ≤ n) : shownB d p k = true := by
  induction n with
  | zero => rw [show k = 0 by omega]; rfl
  | succ n ih =>
    by_cases hc : k = n + 1
    · rw [hc]; exact h
    · exact ih (by simp only [shownB, Bool.and_eq_true] at h; exact h.1) (by omega)
theorem shownB_bad {d : List (List (Int × Int))} {p : Int} {k n : Nat} (h : shownB d p (k + 1) = false) (hk : k < n) : shownB d p n = false := by
  apply Bool.eq_false_iff.2
  intro ht
  rw [shownB_mono ht (show k + 1 ≤ n by omega)] at h; cases h
theorem shownK_length (d : List (List (Int × Int))) (p : Int) (k : Nat) : (shownK d p k).length = k := by
  induction k with
  | zero => rfl
  | succ k ih => simp [shownK, ih]
theorem shown_step (d : List (List (Int × Int))) (p : Int) {k n : Nat} (hk : k < n) : (shownK d p k ++ List.replicate (n - k) 0).set k ((d.getD k []).getD (p - 1).toNat (0, 0)).2 = shownK d p (k + 1) ++ List.replicate (n - (k + 1)) 0 := by
  have hl := shownK_length d p k
  rw [List.set_append_right _ _ (by omega), hl, Nat.sub_self, show n - k = (n - (k + 1)) + 1 by omega, List.replicate_succ, List.set_cons_zero, shownK, List.append_assoc, List.singleton_append]
/-- one point of a row -/
theorem RdPointS.pt {w : World} {hi n c k : Nat} {A : Option Addr} {d : List (Int × Int)} (h : RdPointS w hi (.slice A n c) d) (hk : k < n) : ∃ (a : Addr) (x y : Int), A = some a ∧ a.block < hi ∧ w.cell? (a.add (k * 2)) = some (.int .i64 x) ∧ w.cell? ⟨(a.add (k * 2)).block, (a.add (k * 2)).off + 1, none⟩ = some (.int .i64 y) ∧ Hid (d.getD k (0, 0) = (x, y)) := by
  obtain ⟨A', n', c', e, _, r⟩ := h
  injection e with e1 e2 e3; subst e1; subst e2; subst e3
  exact r.ptAt hk
/-- a box of two cells over a call that only makes -/
theorem Bx.cells2 {w : World} {b e : Nat} {x y : Value} (h : Bx w b #[x, y] e) : w.cell? ⟨b, 0, none⟩ = some x ∧ w.cell? ⟨b, 1, none⟩ = some y := ⟨h.cell 0, h.cell 1⟩

set_option maxHeartbeats 4000000 in
theorem X_s_PartiesSeen (v : Value) (d : List (List (Int × Int)) × List Int) (p : Int) (w : World) (h : RdRun w w.heap.size v d) (hs : szRun d ≤ 1048576) :
    Calls Try.prog 50 #[v, .int .i64 p] w fun e w' => ∃ g, e = .returned g ∧ OwIntS w' w.heap.size w'.heap.size g (R_PartiesSeen_0 d p) ∧ Below w.heap.size w w' := by
  obtain ⟨A1, n1, c1, A2, n2, c2, rfl, h1, h2⟩ := h
  obtain ⟨d1, d2⟩ := d
  obtain ⟨A1', n1', c1', vs, e, _, r⟩ := h1
  injection e with e1 e2 e3; subst e1; subst e2; subst e3
  have hl : Hid (d1.length = n1) := Lib.hid r.2.1
  have q1 : n1 ≤ 1048576 := by have := hl.out; unfold szRun szPointSS at hs; simp only at hs; omega
  have H1 := Lib.hid r
  clear r h2 hs
  have HX0 : Hid (Bx ((w.alloc (.cells #[.slice A1 n1 c1, .slice A2 n2 c2] 73)).alloc (.cells #[] 3)) w.heap.size #[.slice A1 n1 c1, .slice A2 n2 c2] 73) := Lib.hid ((Bx.new _ _ _).alloc _)
  have HO0 : Hid (((w.alloc (.cells #[.slice A1 n1 c1, .slice A2 n2 c2] 73)).alloc (.cells #[] 3)).ownsRow (w.heap.size + 1) 3 1 (.slice (some ⟨w.heap.size + 1, 0, none⟩) 0 0) 0 (cI [])) := Lib.hid (by
    have := own_empty (w.alloc (.cells #[.slice A1 n1 c1, .slice A2 n2 c2] 73)) 3 1
    rw [World.size_alloc] at this; exact this)
  have HB0 : Hid (Below w.heap.size w ((w.alloc (.cells #[.slice A1 n1 c1, .slice A2 n2 c2] 73)).alloc (.cells #[] 3))) := Lib.hid (((Below.refl _ _).alloc (Nat.le_refl _) _).alloc (by simp) _)
  go_enter Try.func50, Try.ntmps50
  go_wp2
  go_loopw [5, 6] (fun o i wr => ∃ k : Nat, k ≤ n1 ∧ i = .int .i64 k ∧ Hid (shownB d1 p k = true) ∧ Hid (wr.ownsRow (w.heap.size + 1) 3 1 o k (cI (shownK d1 p k))) ∧ Hid (Bx wr w.heap.size #[.slice A1 n1 c1, .slice A2 n2 c2] 73) ∧ Hid (Below w.heap.size w wr)) (fun _ i _ => n1 - (intOf i).toNat)
  case atStart => exact ⟨0, Nat.zero_le _, rfl, Lib.hid rfl, HO0, HX0, HB0⟩
  case round =>
    clear HO0 HX0 HB0
    obtain ⟨k, hk, rfl, HI, HO, HX, HB⟩ := hrel
    have b0 : wr.cell? ⟨w.heap.size, 0, none⟩ = some (.slice A1 n1 c1) := HX.out.cell 0
    by_cases hlt : k < n1
    · obtain ⟨a, Ai, ni, ci, hA, hab, hc0, hr, _, hni⟩ := H1.out.row hlt
      have hc := (HB.out.cell (p := a.add k) (by rw [add_block]; exact hab)).trans hc0
      have HR := Lib.hid hr
      have HNI := Lib.hid hni
      have i0 : (0 : Int) ≤ (k : Int) := by omega
      have i1 : (k : Int) < (n1 : Int) := by omega
      clear hc0 hr hni
      subst hA
      go_wp2_with fail
      refine (s_l6In _ _ _ _).mono ?_
      rintro e w' ⟨rfl, rfl⟩
      cases ei : inB p 1 (ni : Int)
      · have HF : Hid (R_PartiesSeen_0 (d1, d2) p = []) := Lib.hid (by
          have : shownB d1 p d1.length = false := shownB_bad (k := k) (by rw [shownB, HNI.out, ei, Bool.and_false]) (by rw [hl.out]; exact hlt)
          simp [R_PartiesSeen_0, this])
        have HBF := Lib.hid (HB.out.alloc HB.out.size (.cells #[] 3))
        have HOF : Hid (OwIntS (wr.alloc (.cells #[] 3)) w.heap.size (wr.alloc (.cells #[] 3)).heap.size (.slice (some ⟨wr.heap.size, 0, none⟩) 0 0) []) := Lib.hid ⟨by simp, _, _, _, rfl, by simp [cI], Nat.le_refl _, .inl rfl⟩
        clear HO HX HB
        go_wp2
        go_ret
        exact ⟨_, rfl, by rw [HF.out]; exact HOF.out, HBF.out⟩
      · have hp := inB_iff.1 ei
        obtain ⟨m, rfl⟩ : ∃ m : Nat, p = (m : Int) + 1 := ⟨(p - 1).toNat, by omega⟩
        obtain ⟨ar, x, y, hAr, har, hx0, hy0, HP⟩ := HR.out.pt (k := m) (by omega)
        have hy := (HB.out.cell (p := ⟨(ar.add (m * 2)).block, (ar.add (m * 2)).off + 1, none⟩) (by rw [add_block]; exact har)).trans hy0
        have HI2 : Hid (shownB d1 ((m : Int) + 1) (k + 1) = true) := Lib.hid (by rw [shownB, HI.out, HNI.out, ei]; rfl)
        have HE : Hid (shownK d1 ((m : Int) + 1) (k + 1) = shownK d1 ((m : Int) + 1) k ++ [y]) := Lib.hid (by
          rw [shownK, show ((m : Int) + 1 - 1).toNat = m by omega, HP.out])
        have j0 : (m : Int) < (ni : Int) := by omega
        have HOa := Lib.hid (HO.out.alloc (.cells #[.int .i64 y] 3))
        have HXa := Lib.hid (HX.out.alloc (.cells #[.int .i64 y] 3))
        have HBa := Lib.hid (HB.out.alloc HB.out.size (.cells #[.int .i64 y] 3))
        have hz := HX.out.lt
        have HRa : Hid (Rd (wr.alloc (.cells #[.int .i64 y] 3)) (wr.heap.size + 1) 1 (some ⟨wr.heap.size, 0, none⟩) 1 (cI [y])) := Lib.hid (by
          have := (Ow.new wr #[.int .i64 y] 3 1 1 rfl).rd; exact this)
        subst hAr
        clear hx0 hy0 hp HO HX HB HI
        go_wp2_with (at_builtin; refine wpList_append_rd rfl (.tmp 25) (.tmp 36) _ rfl (w.heap.size + 1) 3 _ 1 8 Try.underlying24 info_int rfl (by decide) u5 k (cI (shownK d1 ((m : Int) + 1) k)) rfl HOa.out _ _ 1 1 (cI [y]) rfl HRa.out (cI_one _) (by unfold maxLen; omega) (by omega) (by simp; omega) ?_; intro v1 w1 hown hg hat; have HOWN := Lib.hid hown; have HG := Lib.hid hg; clear hown hg hat)
        have HO2 : Hid (w1.ownsRow (w.heap.size + 1) 3 1 v1 (k + 1) (cI (shownK d1 ((m : Int) + 1) (k + 1)))) := Lib.hid (by
          rw [HE.out, cI_append]; exact HOWN.out)
        have HX2 := Lib.hid (HXa.out.grown HG.out (own_ne HOa.out (Nat.lt_succ_self _)))
        have HB2 : Hid (Below w.heap.size w w1) := Lib.hid (below_append HBa.out HG.out (fun g hg => by have := own_block HOa.out g hg; omega) HBa.out.size)
        clear HOWN HG HOa HRa HXa HBa
        go_roundw
        case rel => exact ⟨k + 1, by omega, by go_num, HI2, HO2, HX2, HB2⟩
        case measure => simp [intOf] <;> omega
    · have hkn : k = n1 := by omega
      have HF : Hid (R_PartiesSeen_0 (d1, d2) p = shownK d1 p n1) := Lib.hid (by
        have : shownB d1 p d1.length = true := by rw [hl.out, ← hkn]; exact HI.out
        simp only [R_PartiesSeen_0]; rw [if_pos this, hl.out])
      have HOF : Hid (OwIntS wr w.heap.size wr.heap.size u5 (shownK d1 p n1)) := Lib.hid (by
        have h1 := HO.out
        rw [hkn] at h1
        exact (own_done rfl h1 (by omega)).widen (Nat.le_succ _) (Nat.le_refl _))
      clear HO hkn HI
      obtain ⟨A, n, c, rfl, _, _⟩ := HOF.out.open
      go_wp2
      go_ret
      exact ⟨_, rfl, by rw [HF.out]; exact HOF.out, HB.out⟩

set_option maxHeartbeats 4000000 in
theorem X_i_PartiesSeen (v : Value) (d : List (List (Int × Int)) × List Int) (p : Int) (w : World) (h : RdRun w w.heap.size v d) (hs : szRun d ≤ 1048576) :
    Calls Try.prog 52 #[v, .int .i64 p] w fun e w' => ∃ g, e = .returned g ∧ OwIntS w' w.heap.size w'.heap.size g (R_PartiesSeen_0 d p) ∧ Below w.heap.size w w' := by
  obtain ⟨A1, n1, c1, A2, n2, c2, rfl, h1, h2⟩ := h
  obtain ⟨d1, d2⟩ := d
  obtain ⟨A1', n1', c1', vs, e, _, r⟩ := h1
  injection e with e1 e2 e3; subst e1; subst e2; subst e3
  have hl : Hid (d1.length = n1) := Lib.hid r.2.1
  have q1 : n1 ≤ 1048576 := by have := hl.out; unfold szRun szPointSS at hs; simp only at hs; omega
  have H1 := Lib.hid r
  clear r h2 hs
  have hmk := fun W => run_make1 (P := Try.prog) Try.underlying24 info_int rfl n1 (by omega) (by omega) W
  have HX0 : Hid (Bx ((w.alloc (.cells #[.slice A1 n1 c1, .slice A2 n2 c2] 73)).alloc (.cells (Array.replicate n1 (.int .i64 0)) 3)) w.heap.size #[.slice A1 n1 c1, .slice A2 n2 c2] 73) := Lib.hid ((Bx.new _ _ _).alloc _)
  have b00 : ((w.alloc (.cells #[.slice A1 n1 c1, .slice A2 n2 c2] 73)).alloc (.cells (Array.replicate n1 (.int .i64 0)) 3)).cell? ⟨w.heap.size, 0, none⟩ = some (.slice A1 n1 c1) := HX0.out.cell 0
  have HO0 : Hid (Ow ((w.alloc (.cells #[.slice A1 n1 c1, .slice A2 n2 c2] 73)).alloc (.cells (Array.replicate n1 (.int .i64 0)) 3)) (w.heap.size + 1) (w.heap.size + 1 + 1) 3 1 (some ⟨w.heap.size + 1, 0, none⟩) n1 n1 (cI (shownK d1 p 0 ++ List.replicate (n1 - 0) 0))) := Lib.hid (by
    have := Ow.zeros (w.alloc (.cells #[.slice A1 n1 c1, .slice A2 n2 c2] 73)) (.int .i64 0) 3 n1
    rw [World.size_alloc, cI_zeros] at this; exact this)
  have HB0 : Hid (Below w.heap.size w ((w.alloc (.cells #[.slice A1 n1 c1, .slice A2 n2 c2] 73)).alloc (.cells (Array.replicate n1 (.int .i64 0)) 3))) := Lib.hid (((Below.refl _ _).alloc (Nat.le_refl _) _).alloc (by simp) _)
  have HS0 : Hid (w.heap.size + 1 < ((w.alloc (.cells #[.slice A1 n1 c1, .slice A2 n2 c2] 73)).alloc (.cells (Array.replicate n1 (.int .i64 0)) 3)).heap.size) := Lib.hid (by simp)
  clear HX0
  go_enter Try.func52, Try.ntmps52
  go_wp2
  go_loopw [15] (fun i wr => ∃ k : Nat, k ≤ n1 ∧ i = .int .i64 k ∧ Hid (shownB d1 p k = true) ∧ Hid (Ow wr (w.heap.size + 1) (w.heap.size + 1 + 1) 3 1 (some ⟨w.heap.size + 1, 0, none⟩) n1 n1 (cI (shownK d1 p k ++ List.replicate (n1 - k) 0))) ∧ Hid (Below w.heap.size w wr) ∧ Hid (w.heap.size + 1 < wr.heap.size)) (fun i _ => n1 - (intOf i).toNat)
  case atStart => exact ⟨0, Nat.zero_le _, rfl, Lib.hid rfl, HO0, HB0, HS0⟩
  case round =>
    clear HO0 HB0 HS0 b00
    obtain ⟨k, hk, rfl, HI, HO, HB, HS⟩ := hrel
    by_cases hlt : k < n1
    · obtain ⟨a, Ai, ni, ci, hA, hab, hc0, hr, _, hni⟩ := H1.out.row hlt
      have hc := (HB.out.cell (p := a.add k) (by rw [add_block]; exact hab)).trans hc0
      have HR := Lib.hid hr
      have HNI := Lib.hid hni
      have i0 : (0 : Int) ≤ (k : Int) := by omega
      have i1 : (k : Int) < (n1 : Int) := by omega
      clear hc0 hr hni
      subst hA
      by_cases hp : 1 ≤ p ∧ p ≤ ni
      · obtain ⟨m, rfl⟩ : ∃ m : Nat, p = (m : Int) + 1 := ⟨(p - 1).toNat, by omega⟩
        obtain ⟨ar, x, y, hAr, har, hx0, hy0, HP⟩ := HR.out.pt (k := m) (by omega)
        have hy := (HB.out.cell (p := ⟨(ar.add (m * 2)).block, (ar.add (m * 2)).off + 1, none⟩) (by rw [add_block]; exact har)).trans hy0
        have HI2 : Hid (shownB d1 ((m : Int) + 1) (k + 1) = true) := Lib.hid (by rw [shownB, HI.out, HNI.out, inB_t hp]; rfl)
        have HE : Hid (y = ((d1.getD k []).getD ((m : Int) + 1 - 1).toNat (0, 0)).2) := Lib.hid (by
          rw [show ((m : Int) + 1 - 1).toNat = m by omega, HP.out])
        have j0 : (m : Int) < (ni : Int) := by omega
        have j1 : ¬ ((m : Int) + 1 < 1) := by omega
        have j2 : ¬ ((ni : Int) < (m : Int) + 1) := by omega
        obtain ⟨v0, hv0⟩ : ∃ v, wr.cell? ⟨w.heap.size + 1, k, none⟩ = some v := ⟨_, HO.out.cellAt (List.getElem?_eq_getElem (by have := HO.out.1; omega))⟩
        have hf := HO.out.free (by omega) k
        have HO2 := Lib.hid (HO.out.set k (.int .i64 y))
        have HET : Hid ((shownK d1 ((m : Int) + 1) k ++ List.replicate (n1 - k) 0).set k y = shownK d1 ((m : Int) + 1) (k + 1) ++ List.replicate (n1 - (k + 1)) 0) := Lib.hid (by rw [HE.out, shown_step d1 _ hlt])
        rw [cI_set, HET.out] at HO2
        have HB2 := Lib.hid (HB.out.setCell (p := ⟨w.heap.size + 1, k, none⟩) (by simp) (.int .i64 y))
        have HS2 : Hid (w.heap.size + 1 < (wr.setCell ⟨w.heap.size + 1, k, none⟩ (.int .i64 y)).heap.size) := Lib.hid (by rw [World.size_setCell]; exact HS.out)
        subst hAr
        clear hx0 hy0 hp HO HB HS HI HE HET
        go_wp2
        go_roundw
        case rel => exact ⟨k + 1, by omega, by go_num, HI2, HO2, HB2, HS2⟩
        case measure => simp [intOf] <;> omega
      · have HF : Hid (R_PartiesSeen_0 (d1, d2) p = []) := Lib.hid (by
          have : shownB d1 p d1.length = false := shownB_bad (k := k) (by rw [shownB, HNI.out, inB_f hp, Bool.and_false]) (by rw [hl.out]; exact hlt)
          simp [R_PartiesSeen_0, this])
        by_cases hp1 : p < 1
        all_goals
          have hp2 : p < 1 ∨ (ni : Int) < p := by omega
          go_wp2
          go_ret
          exact ⟨_, rfl, by rw [HF.out]; exact OwIntS.nil_ _ _ _, HB.out⟩
    · have hkn : k = n1 := by omega
      have HF : Hid (R_PartiesSeen_0 (d1, d2) p = shownK d1 p n1) := Lib.hid (by
        have : shownB d1 p d1.length = true := by rw [hl.out, ← hkn]; exact HI.out
        simp only [R_PartiesSeen_0]; rw [if_pos this, hl.out])
      have HOF : Hid (OwIntS wr w.heap.size wr.heap.size (.slice (some ⟨w.heap.size + 1, 0, none⟩) n1 n1) (shownK d1 p n1)) := Lib.hid (by
        have := HO.out
        rw [hkn, Nat.sub_self, List.replicate_zero, List.append_nil] at this
        exact ⟨by rw [shownK_length]; omega, _, _, _, rfl, this.widen (by omega) HS.out⟩)
      clear HO hkn HI
      go_wp2
      go_ret
      exact ⟨_, rfl, by rw [HF.out]; exact HOF.out, HB.out⟩
end Go.Proofs.Ytbmjepmlalfpgaa

/- A struct of one-cell fields among a law's parameters. -/
namespace Go.Proofs.Ytbmjepmlalfpgaa
open Go.ChangeShapes Go.WideShapes Go.ChangeAt Go.RowKit
theorem field_int {H : Type} {enc : TypeId × Value → H} {P : Program} {w : World} {base n : Nat} {sp : Nat → Bool} {held : Bool} {t : TypeId} {u : Value} {y : DataW H × List MemPlace} (ht : P.underlying t = some (.int .i64)) (h : DataW.trod enc P w base sp held n t [u] = some y) :
    ∃ z, u = .int .i64 z ∧ (Lit.int .i64 z).wf = true := by
  cases n with
  | zero => simp [DataW.trod] at h
  | succ n =>
    cases u <;> simp [DataW.trod, ht] at h
    obtain ⟨⟨rfl, hw⟩, _⟩ := h
    exact ⟨_, rfl, hw⟩
theorem field_bool {H : Type} {enc : TypeId × Value → H} {P : Program} {w : World} {base n : Nat} {sp : Nat → Bool} {held : Bool} {t : TypeId} {u : Value} {y : DataW H × List MemPlace} (ht : P.underlying t = some .bool) (h : DataW.trod enc P w base sp held n t [u] = some y) :
    ∃ z, u = .bool z := by
  cases n with
  | zero => simp [DataW.trod] at h
  | succ n =>
    cases u <;> simp [DataW.trod, ht] at h
    exact ⟨_, rfl⟩
end Go.Proofs.Ytbmjepmlalfpgaa

/- Arguments that are structs with lists, opened. -/
namespace Go.Proofs.Ytbmjepmlalfpgaa
open Go.ChangeShapes Go.WideShapes Go.ChangeAt Go.RowKit
set_option maxRecDepth 100000

section
variable {H : Type} {enc : TypeId × Value → H} {P : Program} {w : World}
theorem row_lt {a : Addr} {K : Nat} {u : Value} (h : w.cell? (a.add K) = some u) : a.block < w.heap.size := by
  have := World.block_lt_of_cell? (a := a.add K) _ h
  rw [add_block] at this; exact this

/-- a list of structs of K ints -/
theorem open_flat (K : Nat) (hK : 0 < K) {t e : TypeId} {fs : Array Field} {fuel : Nat} {cs : List Value} {x : DataW H × List MemPlace} (ht : P.underlying t = some (.slice e)) (he : P.underlying e = some (.struct fs)) (ce : P.cellsOf e = K)
    (hf : ∀ j, j < K → ∃ f, fs[j]? = some f ∧ f.offset = j ∧ P.cellsOf f.type = 1 ∧ P.underlying f.type = some (.int .i64)) (h : DataW.trod enc P w 0 (fun _ => true) true fuel t cs = some x) :
    ∃ A n c, cs = [.slice A n c] ∧ n ≤ 9223372036854775807 ∧ (0 < n → ∃ a, A = some a ∧ a.block < w.heap.size) ∧ ∃ Z : Nat → Nat → Int, ∀ a, A = some a → ∀ i, i < n → ∀ j, j < K → w.cell? (a.add (i * K + j)) = some (.int .i64 (Z i j)) := by
  rcases Go.Deep.open_slice ht h with ⟨rfl, _⟩ | ⟨a, len, cap, m, n, D, Pl, rfl, _, hl, hm, hmm, _, hx⟩
  · exact ⟨_, _, _, rfl, by omega, fun h => by omega, fun _ _ => 0, fun a ha => by cases ha⟩
  · simp only [if_true] at hmm
    unfold maxLen at hm
    have each : ∀ i, i < len → ∃ z : Nat → Int, ∀ j, j < K → w.cell? (a.add (i * K + j)) = some (.int .i64 (z j)) := by
      intro i hi
      obtain ⟨cs', h1, h2⟩ := hx i (by omega)
      rw [ce] at h1
      obtain ⟨_, hlen, hcell⟩ := World.cells?_some h1
      obtain ⟨xs, k, hk, _, _, hxl, hf2⟩ := DataW.trod_struct he h2
      refine ⟨fun j => intOf (cs'.getD j undef), fun j hj => ?_⟩
      obtain ⟨f, f1, f2, f3, f4⟩ := hf j hj
      have g := hf2 j f f1
      have hjx : j < xs.length := by
        rw [hxl]
        exact (Array.getElem?_eq_some_iff.1 f1).1
      rw [f2, f3, List.getElem?_eq_getElem hjx] at g
      have hjl : j < cs'.length := by omega
      have e0 : cs'[j]? = some (cs'.getD j undef) := by rw [List.getD_eq_getElem?_getD, List.getElem?_eq_getElem hjl]; rfl
      have e1 : (cs'.drop j).take 1 = [cs'.getD j undef] := by
        rw [List.drop_eq_getElem_cons hjl, List.take_succ_cons, List.take_zero, List.getD_eq_getElem?_getD, List.getElem?_eq_getElem hjl]; rfl
      rw [e1] at g
      obtain ⟨z, e2, _⟩ := DataW.trod_int f4 g
      have e3 : cs'.getD j undef = .int .i64 z := by injection e2
      have e4 := hcell j hj
      rw [Go.Deep.add_add] at e4
      rw [e4, e0]
      show some (cs'.getD j undef) = some (.int .i64 (intOf (cs'.getD j undef)))
      rw [e3]; rfl
    obtain ⟨Z, hZ⟩ := Go.Deep.choose_lt each
    refine ⟨some a, len, cap, rfl, by omega, fun h0 => ⟨a, rfl, row_lt (hZ 0 h0 0 hK)⟩, Z, fun b hb i hi j hj => ?_⟩
    injection hb with hb; subst hb
    exact hZ i hi j hj

theorem field_GateS {t e : TypeId} {f0 f1 f2 : Field} {n : Nat} {u : Value} {y : DataW H × List MemPlace} (ht : P.underlying t = some (.slice e)) (he : P.underlying e = some (.struct #[f0, f1, f2])) (ce : P.cellsOf e = 3)
    (o0 : f0.offset = 0) (o1 : f1.offset = 1) (o2 : f2.offset = 2) (c0 : P.cellsOf f0.type = 1) (c1 : P.cellsOf f1.type = 1) (c2 : P.cellsOf f2.type = 1) (t0 : P.underlying f0.type = some (.int .i64)) (t1 : P.underlying f1.type = some (.int .i64)) (t2 : P.underlying f2.type = some (.int .i64))
    (h : DataW.trod enc P w 0 (fun _ => true) true n t [u] = some y) : ∃ A n c d, u = .slice A n c ∧ RdGateS w w.heap.size (.slice A n c) d := by
  obtain ⟨A, n, c, hu, hn, hb, Z, hZ⟩ := open_flat 3 (by omega) ht he ce (fun j hj => by
    match j, hj with
    | 0, _ => exact ⟨f0, rfl, o0, c0, t0⟩
    | 1, _ => exact ⟨f1, rfl, o1, c1, t1⟩
    | 2, _ => exact ⟨f2, rfl, o2, c2, t2⟩) h
  refine ⟨A, n, c, (List.range n).map fun i => (Z i 0, Z i 1, Z i 2), by simpa using hu, A, n, c, rfl, hn, by rw [cGate_length]; simp, fun h0 => ?_⟩
  obtain ⟨a, rfl, hab⟩ := hb h0
  refine ⟨a, rfl, hab, fun j v hv => ?_⟩
  have hj : j < n * 3 := by
    have := (List.getElem?_eq_some_iff.1 hv).1
    rw [cGate_length] at this; simpa using this
  have h2 : j = (j / 3) * 3 + 0 ∨ j = (j / 3) * 3 + 1 ∨ j = (j / 3) * 3 + 2 := by omega
  have hk : j / 3 < n := by omega
  generalize j / 3 = k at h2 hk
  rcases h2 with rfl | rfl | rfl
  · rw [hZ a rfl k hk 0 (by omega), ← hv, Nat.add_zero, cGate_get0 _ _ (by simpa using hk)]; simp [hk]
  · rw [hZ a rfl k hk 1 (by omega), ← hv, cGate_get1 _ _ (by simpa using hk)]; simp [hk]
  · rw [hZ a rfl k hk 2 (by omega), ← hv, cGate_get2 _ _ (by simpa using hk)]; simp [hk]

theorem field_IntS {t e : TypeId} {n : Nat} {u : Value} {y : DataW H × List MemPlace} (ht : P.underlying t = some (.slice e)) (he : P.underlying e = some (.int .i64)) (hc : P.cellsOf e = 1)
    (h : DataW.trod enc P w 0 (fun _ => true) true n t [u] = some y) : ∃ A n c d, u = .slice A n c ∧ RdIntS w w.heap.size (.slice A n c) d := by
  rcases open_ints ht he hc h with ⟨hn, _⟩ | ⟨a, len, cap, zs, hs, _, hlc, hm, hlen, _, hcell, _⟩
  · have : u = .slice none 0 0 := by simpa using hn
    exact ⟨_, _, _, [], this, _, _, _, rfl, by omega, by simp [cI], fun h => by omega⟩
  · have : u = .slice (some a) len cap := by simpa using hs
    simp only [if_true] at hlen
    unfold maxLen at hm
    refine ⟨_, _, _, zs.take len, this, _, _, _, rfl, by omega, by rw [cI_length, List.length_take]; omega, fun hn => ⟨a, rfl, row_lt (hcell 0 (by omega)), fun j v hv => ?_⟩⟩
    have hj : j < len := by
      have := (List.getElem?_eq_some_iff.1 hv).1
      rw [cI_length, List.length_take] at this; omega
    rw [hcell j (by omega), ← hv, cI_get _ _ (by rw [List.length_take]; omega)]
    simp [hj]

theorem field_PointS {t e : TypeId} {f0 f1 : Field} {n : Nat} {u : Value} {y : DataW H × List MemPlace} (ht : P.underlying t = some (.slice e)) (he : P.underlying e = some (.struct #[f0, f1])) (ce : P.cellsOf e = 2)
    (o0 : f0.offset = 0) (o1 : f1.offset = 1) (c0 : P.cellsOf f0.type = 1) (c1 : P.cellsOf f1.type = 1) (t0 : P.underlying f0.type = some (.int .i64)) (t1 : P.underlying f1.type = some (.int .i64))
    (h : DataW.trod enc P w 0 (fun _ => true) true n t [u] = some y) : ∃ A n c d, u = .slice A n c ∧ RdPointS w w.heap.size (.slice A n c) d := by
  obtain ⟨A, n, c, hu, hn, hb, Z, hZ⟩ := open_flat 2 (by omega) ht he ce (fun j hj => by
    match j, hj with
    | 0, _ => exact ⟨f0, rfl, o0, c0, t0⟩
    | 1, _ => exact ⟨f1, rfl, o1, c1, t1⟩) h
  refine ⟨A, n, c, (List.range n).map fun i => (Z i 0, Z i 1), by simpa using hu, A, n, c, rfl, hn, by rw [cP_length]; simp, fun h0 => ?_⟩
  obtain ⟨a, rfl, hab⟩ := hb h0
  refine ⟨a, rfl, hab, fun j v hv => ?_⟩
  have hj : j < n * 2 := by
    have := (List.getElem?_eq_some_iff.1 hv).1
    rw [cP_length] at this; simpa using this
  have h2 : j = (j / 2) * 2 + 0 ∨ j = (j / 2) * 2 + 1 := by omega
  have hk : j / 2 < n := by omega
  generalize j / 2 = k at h2 hk
  rcases h2 with rfl | rfl
  · rw [hZ a rfl k hk 0 (by omega), ← hv, Nat.add_zero, cP_get1 _ _ (by simpa using hk)]; simp [hk]
  · rw [hZ a rfl k hk 1 (by omega), ← hv, cP_get2 _ _ (by simpa using hk)]; simp [hk]

theorem field_PointSS {t t' e : TypeId} {f0 f1 : Field} {n : Nat} {u : Value} {y : DataW H × List MemPlace} (ht : P.underlying t = some (.slice t')) (ct : P.cellsOf t' = 1) (ht' : P.underlying t' = some (.slice e)) (he : P.underlying e = some (.struct #[f0, f1])) (ce : P.cellsOf e = 2)
    (o0 : f0.offset = 0) (o1 : f1.offset = 1) (c0 : P.cellsOf f0.type = 1) (c1 : P.cellsOf f1.type = 1) (t0 : P.underlying f0.type = some (.int .i64)) (t1 : P.underlying f1.type = some (.int .i64))
    (h : DataW.trod enc P w 0 (fun _ => true) true n t [u] = some y) : ∃ A n c d, u = .slice A n c ∧ RdPointSS w w.heap.size (.slice A n c) d := by
  rcases Go.Deep.open_slice ht h with ⟨hu, _⟩ | ⟨a, len, cap, m, n, D, Pl, hu, _, hl, hm, hmm, _, hx⟩
  · have : u = .slice none 0 0 := by simpa using hu
    exact ⟨_, _, _, [], this, _, _, _, [], rfl, by omega, ⟨rfl, fun h => by omega⟩, rfl, fun i hi => by omega⟩
  · have hu2 : u = .slice (some a) len cap := by simpa using hu
    simp only [if_true] at hmm
    unfold maxLen at hm
    have each : ∀ i, i < len → ∃ q : Value × List (Int × Int), w.cell? (a.add i) = some q.1 ∧ RdPointS w w.heap.size q.1 q.2 := by
      intro i hi
      obtain ⟨cs', h1, h2⟩ := hx i (by omega)
      rw [ct] at h1
      obtain ⟨_, hlen, hcell⟩ := World.cells?_some h1
      match cs', hlen with
      | [v], _ =>
        obtain ⟨A, n, c, d, rfl, r⟩ := field_PointS ht' he ce o0 o1 c0 c1 t0 t1 h2
        refine ⟨(_, d), ?_, r⟩
        have := hcell 0 (by omega)
        rw [Nat.mul_one, Go.Deep.add_add, Nat.add_zero] at this
        simpa using this
    obtain ⟨q, hq⟩ := Go.Deep.choose_lt each
    refine ⟨_, _, _, (List.range len).map fun i => (q i).2, hu2, _, _, _, (List.range len).map fun i => (q i).1, rfl, by omega, ⟨by simp, fun h0 => ⟨a, rfl, row_lt (hq 0 h0).1, fun j v hv => ?_⟩⟩, by simp, fun i hi => ?_⟩
    · have hj : j < len := by
        have := (List.getElem?_eq_some_iff.1 hv).1
        simpa using this
      simp [hj] at hv
      rw [← hv]; exact (hq j hj).1
    · simp only [List.getD_eq_getElem?_getD, List.getElem?_map, List.getElem?_range hi, Option.map_some, Option.getD_some]
      exact (hq i hi).2
end
end Go.Proofs.Ytbmjepmlalfpgaa
