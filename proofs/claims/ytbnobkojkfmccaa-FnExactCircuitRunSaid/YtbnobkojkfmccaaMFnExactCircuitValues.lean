import Derived.Test.YtbnobkojkfmccaaPts
import Derived.Test.YtbnobkojkfmccaaWalk2n
import Derived.Test.YtbnobkojkfmccaaFace2b
import Derived.Test.YtbnobkojkfmccaaWalk3a
import Derived.Test.YtbnobkojkfmccaaWalk3b
import Derived.Deep.RegionHeld3
import Derived.Deep.RegionLaw
import Derived.RangeFuncNested
import Derived.RangeFuncCalls
import Derived.RangeFuncLeaves
import Derived.Shelf.Abstract
import Derived.OwnWalkIn
import Derived.TacticsInMore
import Derived.LoopNIn
import Derived.LoopIn
import Derived.Test.YtbnobkojkfmccaaWalk8j
import Derived.Test.YtbnobkojkfmccaaSS2
import Derived.StillTailTactics
import Derived.Test.YtbnobkojkfmccaaLaw
import Derived.Lib.SmallJoins
import Derived.Test.YtbnobkojkfmccaaCircuit
/- Lists of pairs as whole values: what a law hands from call to call. -/
namespace Go.Proofs.Ytbnobkojkfmccaa
open Go.RowKit
set_option maxRecDepth 100000

def RdPointS (w : World) (hi : Nat) (v : Value) (d : List (Int × Int)) : Prop := ∃ A n c, v = .slice A n c ∧ n ≤ 9223372036854775807 ∧ Rd w hi 2 A n (cP d)
def OwPointS (w : World) (lo hi : Nat) (v : Value) (d : List (Int × Int)) : Prop := d.length ≤ 1048576 ∧ ∃ A n c, v = .slice A n c ∧ Ow w lo hi 61 2 A n c (cP d)
def szPointS (d : List (Int × Int)) : Nat := d.length
def mkPointS (K : Int) (d : List (Int × Int)) : List (Int × Int) := iotaP K d.length
section
variable {w w' : World} {lo hi lo' hi' B mid : Nat} {v : Value} {d : List (Int × Int)}
theorem RdPointS.below (h : RdPointS w hi v d) (hb : Below hi w w') : RdPointS w' hi v d := by
  obtain ⟨A, n, c, rfl, hn, r⟩ := h; exact ⟨A, n, c, rfl, hn, r.below hb⟩
theorem RdPointS.more (h : RdPointS w hi v d) (hh : hi ≤ hi') : RdPointS w hi' v d := by
  obtain ⟨A, n, c, rfl, hn, r⟩ := h; exact ⟨A, n, c, rfl, hn, r.more hh⟩
theorem OwPointS.small (h : OwPointS w lo hi v d) : szPointS d ≤ 1048576 := h.1
theorem OwPointS.rd (h : OwPointS w lo hi v d) : RdPointS w hi v d := by
  obtain ⟨hs, A, n, c, rfl, r⟩ := h
  exact ⟨A, n, c, rfl, by have := r.plen; omega, r.rd⟩
theorem OwPointS.below (h : OwPointS w lo hi v d) (hb : Below B w w') (hz : hi ≤ B) : OwPointS w' lo hi v d := by
  obtain ⟨hs, A, n, c, rfl, r⟩ := h; exact ⟨hs, A, n, c, rfl, r.below hb hz⟩
theorem OwPointS.kept (h : OwPointS w lo hi v d) (hk : Kept lo' mid w w') (hz : hi ≤ w.heap.size) (hd : mid ≤ lo ∨ hi ≤ lo') : OwPointS w' lo hi v d := by
  obtain ⟨hs, A, n, c, rfl, r⟩ := h; exact ⟨hs, A, n, c, rfl, r.kept hk hz hd⟩
theorem OwPointS.widen (h : OwPointS w lo hi v d) (h1 : lo' ≤ lo) (h2 : hi ≤ hi') : OwPointS w lo' hi' v d := by
  obtain ⟨hs, A, n, c, rfl, r⟩ := h; exact ⟨hs, A, n, c, rfl, r.widen h1 h2⟩
end
theorem OwPointS.nil_ (w : World) (lo hi : Nat) : OwPointS w lo hi (.slice none 0 0) [] := ⟨by simp, none, 0, 0, rfl, by simp [cP], Nat.le_refl _, .inl rfl⟩

theorem L_toPointS (hi : Nat) (v : Value) (d : List (Int × Int)) (w : World) (h : RdPointS w hi v d) (hh : hi ≤ w.heap.size) (hs : szPointS d ≤ 1048576) :
    Calls Try.prog 41 #[v] w fun e w' => ∃ v', e = .returned v' ∧ OwPointS w' w.heap.size w'.heap.size v' d ∧ Below w.heap.size w w' := by
  obtain ⟨A, n, c, rfl, _, r⟩ := h
  have hl := r.plen
  unfold szPointS at hs
  exact (l_toPointS A n c d w (r.more hh) (by omega)).mono fun e w' ⟨he, ho, hb, hz⟩ => ⟨_, he, ⟨hs, _, _, _, rfl, ho.widen (Nat.le_refl _) hz⟩, hb⟩

theorem L_eqPointS (hi hi' : Nat) (v v' : Value) (d : List (Int × Int)) (w : World) (h : RdPointS w hi v d) (h' : RdPointS w hi' v' d) (hh : hi ≤ w.heap.size) (hh' : hi' ≤ w.heap.size) (hs : szPointS d ≤ 1048576) :
    Calls Try.prog 43 #[v, v'] w fun e w' => e = .returned (.bool true) ∧ Below w.heap.size w w' := by
  obtain ⟨A, n, c, rfl, _, r⟩ := h
  obtain ⟨A', n', c', rfl, _, r'⟩ := h'
  have hl := r.plen
  have hl' := r'.plen
  obtain rfl : n' = n := by omega
  unfold szPointS at hs
  exact l_eqPointS A A' _ c c' d w (r.more hh) (r'.more hh') (by omega)

theorem L_markPointS (lo hi : Nat) (v : Value) (d : List (Int × Int)) (K : Int) (w : World) (h : OwPointS w lo hi v d) (_hz : hi ≤ w.heap.size) (hK : 0 ≤ K) (hK2 : K ≤ 1000000000) :
    Calls Try.prog 44 #[v, .int .i64 K] w fun e w' => ∃ K', e = .returned (.int .i64 K') ∧ Hid (K' = K + 2 * szPointS d) ∧ 0 ≤ K' ∧ K' ≤ K + 2097152 ∧ OwPointS w' lo hi v (mkPointS K d) ∧ Kept lo hi w w' := by
  obtain ⟨hs, A, n, c, rfl, r⟩ := h
  have hl := r.plen
  refine (l_markPointS A n c lo hi d K w r (by omega) hK (by omega)).mono fun e w' ⟨he, ho, hk⟩ => ?_
  refine ⟨_, he, Lib.hid (by unfold szPointS; omega), by omega, by omega, ⟨by rw [mkPointS, iotaP_length]; exact hs, _, _, _, rfl, ?_⟩, hk⟩
  unfold mkPointS; rw [hl]; exact ho

theorem L_szPointS_ok (hi : Nat) (v : Value) (d : List (Int × Int)) (left : Int) (w : World) (h : RdPointS w hi v d) (hl0 : 0 ≤ left) (hl1 : left ≤ 1048576) (hl : (szPointS d : Nat) ≤ left) :
    Calls Try.prog 39 #[v, .int .i64 left] w fun e w' => ∃ L', e = .returned (.int .i64 L') ∧ Hid (L' = left - szPointS d) ∧ 0 ≤ L' ∧ L' ≤ left ∧ Below w.heap.size w w' := by
  obtain ⟨A, n, c, rfl, hn, r⟩ := h
  have hn2 := r.plen
  unfold szPointS at hl
  refine (l_szPointS A n c left w hn hl0 hl1).mono fun e w' ⟨he, hw⟩ => ⟨_, he, Lib.hid ?_, ?_, ?_, hw ▸ Below.refl _ _⟩
  · rw [if_pos (by omega)]; unfold szPointS; omega
  · rw [if_pos (by omega)]; omega
  · rw [if_pos (by omega)]; omega
theorem L_szPointS_no (hi : Nat) (v : Value) (d : List (Int × Int)) (left : Int) (w : World) (h : RdPointS w hi v d) (hl0 : 0 ≤ left) (hl1 : left ≤ 1048576) (hl : left < (szPointS d : Nat)) :
    Calls Try.prog 39 #[v, .int .i64 left] w fun e w' => e = .returned (.int .i64 (-1)) ∧ Below w.heap.size w w' := by
  obtain ⟨A, n, c, rfl, hn, r⟩ := h
  have hn2 := r.plen
  unfold szPointS at hl
  refine (l_szPointS A n c left w hn hl0 hl1).mono fun e w' ⟨he, hw⟩ => ⟨?_, hw ▸ Below.refl _ _⟩
  rw [he, if_neg (by omega)]
end Go.Proofs.Ytbnobkojkfmccaa

/- Chapter 2: PolyThrough as the laws meet it. Made by gen2face4.py. -/
namespace Go.Proofs.Ytbnobkojkfmccaa
open Go.RowKit
set_option maxRecDepth 100000

def R_PolyThrough_1 (d : List (Int × Int)) : Bool := ptsB d
def R_PolyThrough_0 (d : List (Int × Int)) : List Int := if R_PolyThrough_1 d = true then thrS d d.length d.length else []

end Go.Proofs.Ytbnobkojkfmccaa

/- Chapter 4: shares that are good; SharesJoin, in the model and in the program. -/
namespace Go.Proofs.Ytbnobkojkfmccaa
open Go.RowKit
set_option maxRecDepth 100000

/-- the first k have X from 1 to top -/
def xsK (ps : List (Int × Int)) (top : Int) : Nat → Bool
  | 0 => true
  | k + 1 => xsK ps top k && (decide (1 ≤ px ps k) && decide (px ps k ≤ top))
theorem xsK_mono {ps : List (Int × Int)} {top : Int} {k n : Nat} (h : xsK ps top n = true) (hk : k ≤ n) : xsK ps top k = true := by
  induction n with
  | zero => rw [show k = 0 by omega]; rfl
  | succ n ih =>
    by_cases hc : k = n + 1
    · rw [hc]; exact h
    · exact ih (by simp only [xsK, Bool.and_eq_true] at h; exact h.1) (by omega)
theorem xsK_bad {ps : List (Int × Int)} {top : Int} {k n : Nat} (h : xsK ps top (k + 1) = false) (hk : k < n) : xsK ps top n = false := by
  apply Bool.eq_false_iff.2
  intro ht
  rw [xsK_mono ht (show k + 1 ≤ n by omega)] at h; cases h
theorem xsK_at {ps : List (Int × Int)} {top : Int} {k n : Nat} (h : xsK ps top n = true) (hk : k < n) : 1 ≤ px ps k ∧ px ps k ≤ top := by
  have := xsK_mono h (show k + 1 ≤ n by omega)
  simp only [xsK, Bool.and_eq_true, decide_eq_true_eq] at this
  exact this.2
theorem ret_tib {a b : Int} {c d : Bool} (h1 : a = b) (h2 : c = d) : Ending.returned (.tuple #[.int .i64 a, .bool c]) = .returned (.tuple #[.int .i64 b, .bool d]) := by rw [h1, h2]
def shB (ps : List (Int × Int)) (top : Int) : Bool := ptsB ps && xsK ps top ps.length
theorem shB_good {ps : List (Int × Int)} {n : Nat} (hl : ps.length = n) (h : ptsB ps = true) : Good ps n ∧ n ≤ 20 := by
  simp only [ptsB, Bool.and_eq_true, decide_eq_true_eq] at h
  exact ⟨by rw [← hl]; exact Good.of h.2, by omega⟩

set_option maxHeartbeats 1000000 in
theorem i_sharesOk (A : Option Addr) (n c : Nat) (ps : List (Int × Int)) (top : Int) (w : World) (h : Rd w w.heap.size 2 A n (cP ps)) (hn : n ≤ 1048576) :
    Calls Try.prog 79 #[.slice A n c, .int .i64 top] w fun e w' => e = .returned (.bool (shB ps top)) ∧ Below w.heap.size w w' := by
  have hlen := Lib.hid h.plen
  have H := Lib.hid h
  clear h
  cases hp : ptsB ps
  · have HF : Hid (false = shB ps top) := Lib.hid (by simp [shB, hp])
    go_enter Try.func79, Try.ntmps79
    go_wp2_with fail
    refine (i_pointsOk _ _ _ _ _ H.out hn).mono ?_
    rintro e w1 ⟨rfl, hb⟩
    have HB := Lib.hid hb
    clear hb
    rw [hp]
    go_wp2
    go_ret
    exact ⟨ret_bool HF.out, HB.out⟩
  · have HB0 : Hid (shB ps top = xsK ps top n) := Lib.hid (by unfold shB; rw [hp, hlen.out]; rfl)
    have HG := Lib.hid (shB_good hlen.out hp).1
    go_enter Try.func79, Try.ntmps79
    go_wp2_with fail
    refine (i_pointsOk _ _ _ _ _ H.out hn).mono ?_
    rintro e w1 ⟨rfl, hb⟩
    have HB := Lib.hid hb
    clear hb
    rw [hp]
    go_wp2
    go_loopw [12] (fun i wr => ∃ k : Nat, k ≤ n ∧ i = .int .i64 k ∧ Hid (xsK ps top k = true) ∧ Hid (Below w.heap.size w wr)) (fun i _ => n - (intOf i).toNat)
    case atStart => exact ⟨0, Nat.zero_le _, rfl, Lib.hid rfl, HB⟩
    case round =>
      clear HB
      obtain ⟨k, hk, rfl, HK, HS⟩ := hrel
      by_cases hlt : k < n
      · obtain ⟨a, x, y, rfl, hab, hx0, hy0, HP⟩ := H.out.ptAt hlt
        have hx := (HS.out.cell (p := a.add (k * 2)) (by rw [add_block]; exact hab)).trans hx0
        have hy := (HS.out.cell (p := ⟨(a.add (k * 2)).block, (a.add (k * 2)).off + 1, none⟩) (by rw [add_block]; exact hab)).trans hy0
        have HXY : Hid (px ps k = x) := Lib.hid (by unfold px; rw [HP.out])
        have hxr := HG.out.x0 k hlt
        rw [HXY.out] at hxr
        have HXR := Lib.hid hxr
        clear hx0 hy0
        have HSa := Lib.hid (HS.out.alloc HS.out.size (.cells #[.int .i64 x, .int .i64 y] 61))
        clear HS hxr
        have i0 : (0 : Int) ≤ (k : Int) := by omega
        have i1 : (k : Int) < (n : Int) := by omega
        by_cases h0 : x = 0
        · have HF : Hid (false = shB ps top) := Lib.hid (by
            rw [HB0.out, xsK_bad (k := k) (by rw [xsK, HXY.out, h0]; simp) hlt])
          have hb0 : (x == 0) = true := by simp [h0]
          clear h0
          go_wp2
          go_ret
          exact ⟨ret_bool HF.out, HSa.out⟩
        · have hb0 : (x == 0) = false := by simp [h0]
          by_cases ht : top < x
          · have HF : Hid (false = shB ps top) := Lib.hid (by
              rw [HB0.out, xsK_bad (k := k) (by rw [xsK, HXY.out, show decide (x ≤ top) = false from decide_eq_false (by omega)]; simp) hlt])
            clear h0
            go_wp2
            go_ret
            exact ⟨ret_bool HF.out, HSa.out⟩
          · have HK2 : Hid (xsK ps top (k + 1) = true) := Lib.hid (by
              have := HXR.out
              rw [xsK, HK.out, HXY.out, show decide (x ≤ top) = true from decide_eq_true (by omega), show decide (1 ≤ x) = true from decide_eq_true (by omega)]; rfl)
            have ht2 : decide (top < x) = false := decide_eq_false ht
            clear h0
            go_wp2
            go_roundw
            case rel => exact ⟨k + 1, by omega, by go_num, HK2, HSa⟩
            case measure => simp [intOf] <;> omega
      · have HF : Hid (true = shB ps top) := Lib.hid (by rw [HB0.out, ← HK.out, show k = n by omega])
        go_wp2
        go_ret
        exact ⟨ret_bool HF.out, HS.out⟩

def joinB (d : List (Int × Int)) : Bool := decide (0 < d.length) && shB d 112
def joinI (d : List (Int × Int)) : Int := if joinB d = true then atI (thrS d d.length d.length) 0 else 0
theorem joinI_no {d : List (Int × Int)} (h : joinB d = false) : joinI d = 0 := by simp [joinI, h]

end Go.Proofs.Ytbnobkojkfmccaa

/- Chapter 4: SharesExplain, in the model and in the program; a list that begins inside its block. -/
namespace Go.Proofs.Ytbnobkojkfmccaa
open Go.RowKit
set_option maxRecDepth 100000

/-- The slice (A, n) of ints lies in a block of its own between lo and hi, from wherever in it; or it holds nothing. -/
def OwT (w : World) (lo hi : Nat) (A : Option Addr) (n : Nat) (xs : List Value) : Prop :=
  xs.length = n ∧ (n = 0 ∨ ∃ g o cs, A = some ⟨g, o, none⟩ ∧ lo ≤ g ∧ g < hi ∧ w.heap[g]? = some (.cells cs 3 (0, 0)) ∧ (cs.toList.drop o).take n = xs)
section
variable {w w' : World} {lo hi lo' hi' n g o j : Nat} {A : Option Addr} {xs : List Value} {zs : List Int}
theorem OwT.lt (h : OwT w lo hi A n xs) (hn : 0 < n) : ∃ g o cs, A = some ⟨g, o, none⟩ ∧ lo ≤ g ∧ g < hi ∧ w.heap[g]? = some (.cells cs 3 (0, 0)) ∧ (cs.toList.drop o).take n = xs := by
  rcases h.2 with h0 | h1
  · omega
  · exact h1
theorem addr_add (g o j : Nat) : (⟨g, o, none⟩ : Addr).add j = ⟨g, o + j, none⟩ := by unfold Addr.add; split <;> simp_all
theorem cut_get {cs : Array Value} {u : Value} (ht : (cs.toList.drop o).take n = xs) (hj : xs[j]? = some u) : cs[o + j]? = some u := by
  rw [← ht, List.getElem?_take] at hj
  split at hj
  · rw [List.getElem?_drop] at hj; simpa using hj
  · cases hj
theorem OwT.cellAt {u : Value} (h : OwT w lo hi (some ⟨g, o, none⟩) n xs) (hj : xs[j]? = some u) : w.cell? ⟨g, o + j, none⟩ = some u := by
  have hn : 0 < n := by have := h.1; have := (List.getElem?_eq_some_iff.1 hj).1; omega
  obtain ⟨g', o', cs, hA, _, _, hb, ht⟩ := h.lt hn
  injection hA with hA; injection hA with h1 h2; subst h1; subst h2
  rw [cell_of_row w g (o + j) cs 3 (0, 0) hb]
  exact cut_get ht hj
theorem OwT.free (h : OwT w lo hi (some ⟨g, o, none⟩) n xs) (hn : 0 < n) (j : Nat) : w.frozen? ⟨g, j, none⟩ = false := by
  obtain ⟨g', o', cs, hA, _, _, hb, _⟩ := h.lt hn
  injection hA with hA; injection hA with h1 h2; subst h1; subst h2
  exact frozen_of_row w g j cs 3 hb
theorem OwT.rd (h : OwT w lo hi A n xs) : Rd w hi 1 A n xs := by
  refine ⟨by have := h.1; omega, fun hn => ?_⟩
  obtain ⟨g, o, cs, rfl, hl, hh, hb, ht⟩ := h.lt hn
  refine ⟨_, rfl, hh, fun j u hu => ?_⟩
  rw [addr_add, cell_of_row w g (o + j) cs 3 (0, 0) hb]
  exact cut_get ht hu
theorem OwT.below {B : Nat} (h : OwT w lo hi A n xs) (hk : Below B w w') (hz : hi ≤ B) : OwT w' lo hi A n xs := by
  refine ⟨h.1, ?_⟩
  rcases h.2 with h0 | ⟨g, o, cs, rfl, a, b, hb, r⟩
  · exact .inl h0
  · exact .inr ⟨g, o, cs, rfl, a, b, by rw [hk.block g (by omega)]; exact hb, r⟩
theorem OwT.kept {mid : Nat} (h : OwT w lo hi A n xs) (hk : Kept lo' mid w w') (hz : hi ≤ w.heap.size) (hd : mid ≤ lo ∨ hi ≤ lo') : OwT w' lo hi A n xs := by
  refine ⟨h.1, ?_⟩
  rcases h.2 with h0 | ⟨g, o, cs, rfl, a, b, hb, r⟩
  · exact .inl h0
  · exact .inr ⟨g, o, cs, rfl, a, b, by rw [hk.block g (by omega) (by omega)]; exact hb, r⟩
theorem OwT.widen (h : OwT w lo hi A n xs) (h1 : lo' ≤ lo) (h2 : hi ≤ hi') : OwT w lo' hi' A n xs := by
  refine ⟨h.1, ?_⟩
  rcases h.2 with h0 | ⟨g, o, cs, rfl, a, b, r⟩
  · exact .inl h0
  · exact .inr ⟨g, o, cs, rfl, by omega, by omega, r⟩
theorem OwT.set (h : OwT w lo hi (some ⟨g, o, none⟩) n xs) (j : Nat) (u : Value) : OwT (w.setCell ⟨g, o + j, none⟩ u) lo hi (some ⟨g, o, none⟩) n (xs.set j u) := by
  refine ⟨by simpa using h.1, ?_⟩
  rcases h.2 with h0 | ⟨g', o', cs, hA, a, b, hb, ht⟩
  · exact .inl h0
  · have hA' := hA
    injection hA with hA; injection hA with h1 h2; subst h1; subst h2
    refine .inr ⟨g, o, cs.setIfInBounds (o + j) u, rfl, a, b, heap_setCell_same w g (o + j) cs 3 u hb, ?_⟩
    rw [Array.toList_setIfInBounds, List.drop_set, if_neg (by omega), Nat.add_sub_cancel_left, List.take_set, ht]
theorem OwT.len (h : OwT w lo hi A n (cI zs)) : zs.length = n := by have := h.1; rw [cI_length] at this; omega
end
def OwIntT (w : World) (lo hi : Nat) (v : Value) (d : List Int) : Prop := d.length ≤ 1048576 ∧ ∃ A n c, v = .slice A n c ∧ OwT w lo hi A n (cI d)
section
variable {w w' : World} {lo hi lo' hi' B mid : Nat} {v : Value} {d : List Int}
theorem OwIntT.small (h : OwIntT w lo hi v d) : szIntS d ≤ 1048576 := h.1
theorem OwIntT.rd (h : OwIntT w lo hi v d) : RdIntS w hi v d := by
  obtain ⟨hs, A, n, c, rfl, r⟩ := h
  exact ⟨A, n, c, rfl, by have := r.len; omega, r.rd⟩
theorem OwIntT.below (h : OwIntT w lo hi v d) (hb : Below B w w') (hz : hi ≤ B) : OwIntT w' lo hi v d := by
  obtain ⟨hs, A, n, c, rfl, r⟩ := h; exact ⟨hs, A, n, c, rfl, r.below hb hz⟩
theorem OwIntT.kept (h : OwIntT w lo hi v d) (hk : Kept lo' mid w w') (hz : hi ≤ w.heap.size) (hd : mid ≤ lo ∨ hi ≤ lo') : OwIntT w' lo hi v d := by
  obtain ⟨hs, A, n, c, rfl, r⟩ := h; exact ⟨hs, A, n, c, rfl, r.kept hk hz hd⟩
theorem OwIntT.widen (h : OwIntT w lo hi v d) (h1 : lo' ≤ lo) (h2 : hi ≤ hi') : OwIntT w lo' hi' v d := by
  obtain ⟨hs, A, n, c, rfl, r⟩ := h; exact ⟨hs, A, n, c, rfl, r.widen h1 h2⟩
theorem OwIntT.nil_ (w : World) (lo hi : Nat) : OwIntT w lo hi (.slice none 0 0) [] := ⟨by simp, none, 0, 0, rfl, by simp [cI], .inl rfl⟩
end

set_option maxHeartbeats 400000 in
theorem l_markIntT (A : Option Addr) (n c lo hi : Nat) (zs : List Int) (K : Int) (w : World) (h : OwT w lo hi A n (cI zs)) (hn : n ≤ 1048576) (hK : 0 ≤ K) (hK2 : K ≤ 1000000000000) :
    Calls Try.prog 22 #[.slice A n c, .int .i64 K] w fun e w' => e = .returned (.int .i64 (K + n)) ∧ OwT w' lo hi A n (cI (iota K n)) ∧ Kept lo hi w w' ∧ w'.heap.size = w.heap.size := by
  have hlen : Hid (zs.length = n) := Lib.hid h.len
  have H := Lib.hid h
  clear h
  go_enter Try.func22, Try.ntmps22
  go_wp2
  go_loopw [1, 5] (fun kk i wr => ∃ k : Nat, k ≤ n ∧ i = .int .i64 k ∧ kk = .int .i64 (K + k) ∧ Hid (OwT wr lo hi A n (cI (iota K k ++ zs.drop k))) ∧ Hid (Kept lo hi w wr) ∧ Hid (wr.heap.size = w.heap.size)) (fun _ i _ => n - (intOf i).toNat)
  case atStart => exact ⟨0, Nat.zero_le _, rfl, by go_num, H, Lib.hid (Kept.refl _ _ _), Lib.hid rfl⟩
  case round =>
    obtain ⟨k, hk, rfl, rfl, HO, HB, HZ⟩ := hrel
    by_cases hlt : k < n
    · obtain ⟨g, o, cs, hA, g1, g2, _, _⟩ := HO.out.lt (by omega)
      subst hA
      have hd : wr.cell? ⟨g, o + k, none⟩ = some (.int .i64 ((iota K k ++ zs.drop k).getD k 0)) := HO.out.cellAt (cI_get _ _ (by simp [iota_length]; have := hlen.out; omega))
      have hf := HO.out.free (by omega) (o + k)
      have HO2 := Lib.hid (HO.out.set k (.int .i64 (K + k)))
      rw [cI_set, mark_step K hlen.out hlt] at HO2
      have HB2 := Lib.hid (HB.out.setCell (p := ⟨g, o + k, none⟩) g1 g2 (.int .i64 (K + k)))
      have HZ2 : Hid ((wr.setCell ⟨g, o + k, none⟩ (.int .i64 (K + k))).heap.size = w.heap.size) := Lib.hid (by rw [World.size_setCell]; exact HZ.out)
      clear HO HB HZ
      have i0 : (0 : Int) ≤ (k : Int) := by omega
      have i1 : (k : Int) < (n : Int) := by omega
      go_wp2
      go_roundw
      case rel => exact ⟨k + 1, by omega, by go_num, by go_num, HO2, HB2, HZ2⟩
      case measure => simp [intOf] <;> omega
    · have hkn : k = n := by omega
      have HO2 : Hid (OwT wr lo hi A n (cI (iota K n))) := Lib.hid (by
        have := HO.out; rw [hkn, List.drop_of_length_le (by have := hlen.out; omega), List.append_nil] at this; exact this)
      have HR : Hid (K + (k : Int) = K + (n : Int)) := Lib.hid (by rw [hkn])
      clear HO hkn
      go_wp2
      go_ret
      exact ⟨ret_int HR.out, HO2.out, HB.out, HZ.out⟩
theorem L_markIntT (lo hi : Nat) (v : Value) (d : List Int) (K : Int) (w : World) (h : OwIntT w lo hi v d) (_hz : hi ≤ w.heap.size) (hK : 0 ≤ K) (hK2 : K ≤ 1000000000) :
    Calls Try.prog 22 #[v, .int .i64 K] w fun e w' => ∃ K', e = .returned (.int .i64 K') ∧ Hid (K' = K + szIntS d) ∧ 0 ≤ K' ∧ K' ≤ K + 1048576 ∧ OwIntT w' lo hi v (mkIntS K d) ∧ Kept lo hi w w' := by
  obtain ⟨hs, A, n, c, rfl, r⟩ := h
  have hl := r.len
  refine (l_markIntT A n c lo hi d K w r (by omega) hK (by omega)).mono fun e w' ⟨he, ho, hk, _⟩ => ?_
  refine ⟨_, he, Lib.hid (by unfold szIntS; omega), by omega, by omega, ⟨by rw [mkIntS, iota_length]; exact hs, _, _, _, rfl, ?_⟩, hk⟩
  unfold mkIntS; rw [hl]; exact ho
theorem L_eqIntT (hi hi' : Nat) (v v' : Value) (d : List Int) (w : World) (h : RdIntS w hi v d) (h' : RdIntS w hi' v' d) (hh : hi ≤ w.heap.size) (hh' : hi' ≤ w.heap.size) (hs : szIntS d ≤ 1048576) :
    Calls Try.prog 20 #[v, v'] w fun e w' => e = .returned (.bool true) ∧ Below w.heap.size w w' := L_eqIntS hi hi' v v' d w h h' hh hh' hs
theorem L_heldIntT (hi : Nat) (v : Value) (d : List Int) (K q : Int) (w : World) (h : RdIntS w hi v (mkIntS K d)) (hz : hi ≤ w.heap.size) (hs : szIntS d ≤ 1048576) (hq : Hid (q = K)) (hK : 0 ≤ K) (hK2 : K ≤ 1000000000) :
    Calls Try.prog 23 #[v, .int .i64 q] w fun e w' => ∃ K', e = .returned (.int .i64 K') ∧ Hid (K' = K + szIntS d) ∧ 0 ≤ K' ∧ K' ≤ K + 1048576 ∧ Below w.heap.size w w' := L_heldIntS hi v d K q w h hz hs hq hK hK2

/-! what both say -/
def expB (s : Int) (d : List (Int × Int)) : Bool := numB s && (decide (d.length ≤ 6) && shB d 7)
def expL (s : Int) (d : List (Int × Int)) : List Int := (List.range d.length).map fun i => (thrS ((0, s) :: d) (1 + d.length) (1 + d.length)).getD (i + 1) 0
def R_SharesExplain_1 (s : Int) (d : List (Int × Int)) : Bool := expB s d
def R_SharesExplain_0 (s : Int) (d : List (Int × Int)) : List Int := if expB s d = true then expL s d else []
theorem expL_length (s : Int) (d : List (Int × Int)) : (expL s d).length = d.length := by simp [expL]
theorem expL_get (s : Int) (d : List (Int × Int)) (i : Nat) (h : i < d.length) : (expL s d).getD i 0 = (thrS ((0, s) :: d) (1 + d.length) (1 + d.length)).getD (i + 1) 0 := by
  simp [expL, h]
theorem exp_good {s : Int} {d : List (Int × Int)} (hs : numB s = true) (h : shB d 7 = true) (_h6 : d.length ≤ 6) : Good ((0, s) :: d) (1 + d.length) := by
  simp only [shB, Bool.and_eq_true] at h
  have hg := (shB_good rfl h.1).1
  have hx := fun i (hi : i < d.length) => xsK_at h.2 hi
  have hsr := (numB_iff s).1 hs
  have p0 : px ((0, s) :: d) 0 = 0 := rfl
  have q0 : py ((0, s) :: d) 0 = s := rfl
  have p1 : ∀ i, px ((0, s) :: d) (i + 1) = px d i := fun i => by simp [px]
  have q1 : ∀ i, py ((0, s) :: d) (i + 1) = py d i := fun i => by simp [py]
  refine ⟨fun i hi => ?_, fun i hi => ?_, fun i j hi hj hij => ?_⟩
  · cases i with
    | zero => rw [p0]; omega
    | succ i => rw [p1]; exact hg.x0 i (by omega)
  · cases i with
    | zero => rw [q0]; exact hsr
    | succ i => rw [q1]; exact hg.y0 i (by omega)
  · cases i with
    | zero =>
      cases j with
      | zero => exact absurd rfl hij
      | succ j => rw [p0, p1]; have := hx j (by omega); omega
    | succ i =>
      cases j with
      | zero => rw [p0, p1]; have := hx i (by omega); omega
      | succ j => rw [p1, p1]; exact hg.ne i j (by omega) (by omega) (by omega)
theorem lit_point (w : World) (s : Int) : (w.alloc (.cells #[.int .i64 0, .int .i64 s] 61)).ownsRow w.heap.size 61 2 (.slice (some ⟨w.heap.size, 0, none⟩) 1 1) 1 [.int .i64 0, .int .i64 s] :=
  ⟨rfl, .inr ⟨w.heap.size, 1, _, rfl, Nat.le_refl _, heap_alloc_new _ _, Nat.le_refl _, by unfold maxLen; omega, rfl, rfl⟩⟩
theorem cP_one (ps : List (Int × Int)) : ∀ u ∈ cP ps, u.oneCell' = true := by
  intro u hu
  simp only [cP, List.mem_flatMap] at hu
  obtain ⟨p, _, hp⟩ := hu
  simp at hp
  rcases hp with rfl | rfl <;> rfl
end Go.Proofs.Ytbnobkojkfmccaa

/- Chapter 4: SharesExplain as the laws meet it. -/
namespace Go.Proofs.Ytbnobkojkfmccaa
open Go.RowKit
set_option maxRecDepth 100000

theorem set_same0 (l : List Int) (k : Nat) (hk : k < l.length) (h : l.getD k 0 = 0) : l.set k 0 = l := by
  apply List.ext_getElem?
  intro i
  rw [List.getElem?_set]
  by_cases hc : k = i
  · subst hc
    rw [if_pos rfl, if_pos hk]
    rw [getD_of _ _ hk] at h
    rw [List.getElem?_eq_getElem hk, h]
  · rw [if_neg hc]
theorem fill_zero {zs : List Int} {n k : Nat} (hz : zs.length = n) (hk : k < n) (h0 : zs.getD k 0 = 0) : zs.take k ++ List.replicate (n - k) 0 = zs.take (k + 1) ++ List.replicate (n - (k + 1)) 0 := by
  rw [← copy_step hz hk, h0]
  refine (set_same0 _ _ (by simp; omega) ?_).symm
  have hl : (zs.take k).length = k := by simp; omega
  simp [hl, show 0 < n - k by omega]

set_option maxHeartbeats 2000000 in
theorem X_s_SharesExplain (v : Value) (s : Int) (d : List (Int × Int)) (w : World) (h : RdPointS w w.heap.size v d) (hs : szPointS d ≤ 1048576) :
    Calls Try.prog 40 #[.int .i64 s, v] w fun e w' => ∃ g, e = .returned (.tuple #[g, .bool (R_SharesExplain_1 s d)]) ∧ OwIntS w' w.heap.size w'.heap.size g (R_SharesExplain_0 s d) ∧ Below w.heap.size w w' := by
  obtain ⟨A, n, c, rfl, hm, r⟩ := h
  have hn : n ≤ 1048576 := by have := r.plen; unfold szPointS at hs; omega
  have hl := Lib.hid r.plen
  have H := Lib.hid r
  clear r hs hm
  have no : expB s d = false → Hid (R_SharesExplain_1 s d = false ∧ R_SharesExplain_0 s d = []) := fun h => Lib.hid ⟨h, by unfold R_SharesExplain_0; rw [h]; rfl⟩
  cases hs : numB s
  · have HF := no (by simp [expB, hs])
    clear no
    go_enter Try.func40, Try.ntmps40
    go_wp2_with fail
    refine (s_NumOk _ _).mono ?_
    rintro e w1 ⟨rfl, rfl⟩
    rw [hs]
    go_wp2
    go_ret2
    refine ⟨_, ret_vb HF.out.1.symm, ?_, Below.refl _ _⟩
    rw [HF.out.2]; exact OwIntS.nil_ _ _ _
  · by_cases h6 : n ≤ 6
    · have t6 : decide ((6 : Int) < (n : Int)) = false := decide_eq_false (by omega)
      cases hp : ptsB d
      · have HF := no (by simp [expB, shB, hp])
        clear no
        go_enter Try.func40, Try.ntmps40
        go_wp2_with fail
        refine (s_NumOk _ _).mono ?_
        rintro e w1 ⟨rfl, rfl⟩
        rw [hs]
        go_wp2_with fail
        refine (s_l2Points _ _ _ _ _ H.out hn).mono ?_
        rintro e w1 ⟨rfl, hb⟩
        have HB : Hid (Below w.heap.size w w1) := Lib.hid (hb.below _)
        clear hb
        rw [hp]
        go_wp2
        go_ret2
        refine ⟨_, ret_vb HF.out.1.symm, ?_, HB.out⟩
        rw [HF.out.2]; exact OwIntS.nil_ _ _ _
      · have HE : Hid (expB s d = xsK d 7 n) := Lib.hid (by unfold expB shB; rw [hs, hp, hl.out, decide_eq_true h6]; rfl)
        have HS0 := Lib.hid hs
        have HP0 := Lib.hid hp
        have HNO := Lib.hid no
        go_enter Try.func40, Try.ntmps40
        go_wp2_with fail
        refine (s_NumOk _ _).mono ?_
        rintro e w1 ⟨rfl, rfl⟩
        rw [hs]
        go_wp2_with fail
        refine (s_l2Points _ _ _ _ _ H.out hn).mono ?_
        rintro e w1 ⟨rfl, hb⟩
        have HS := Lib.hid hb
        clear hb no
        rw [hp]
        go_wp2
        clear hs hp
        go_loop [6] (fun i => ∃ k : Nat, k ≤ n ∧ i = .int .i64 k ∧ Hid (xsK d 7 k = true)) (fun i => n - (intOf i).toNat)
        case atStart => exact ⟨0, Nat.zero_le _, rfl, Lib.hid rfl⟩
        case round =>
          obtain ⟨k, hk, rfl, HK⟩ := hrel
          by_cases hlt : k < n
          · obtain ⟨a, x, y, rfl, hab, hx0, _, HP⟩ := H.out.ptAt hlt
            have hx := (HS.out.cell (a.add (k * 2))).trans hx0
            have HXY : Hid (px d k = x) := Lib.hid (by unfold px; rw [HP.out])
            clear hx0
            have i0 : (0 : Int) ≤ (k : Int) := by omega
            have i1 : (k : Int) < (n : Int) := by omega
            by_cases hin : 1 ≤ x ∧ x ≤ 7
            · have HI := Lib.hid (inB_t hin)
              have HK2 : Hid (xsK d 7 (k + 1) = true) := Lib.hid (by
                rw [xsK, HK.out, HXY.out, decide_eq_true hin.1, decide_eq_true hin.2]; rfl)
              clear hin
              go_wp2_with fail
              refine (s_l6In _ _ _ _).mono ?_
              rintro e w2 ⟨rfl, rfl⟩
              rw [HI.out]
              go_wp2
              go_round
              case rel => exact ⟨k + 1, by omega, by go_num, HK2⟩
              case measure => simp [intOf] <;> omega
            · have HI := Lib.hid (inB_f hin)
              have HF := HNO.out (by
                rw [HE.out, xsK_bad (k := k) ?_ hlt]
                rw [xsK, HXY.out, HK.out, Bool.true_and, Bool.and_eq_false_iff]
                by_cases h1 : 1 ≤ x
                · exact .inr (decide_eq_false (fun h2 => hin ⟨h1, h2⟩))
                · exact .inl (decide_eq_false h1))
              clear hin
              go_wp2_with fail
              refine (s_l6In _ _ _ _).mono ?_
              rintro e w2 ⟨rfl, rfl⟩
              rw [HI.out]
              go_wp2
              go_ret2
              refine ⟨_, ret_vb HF.out.1.symm, ?_, HS.out.below _⟩
              rw [HF.out.2]; exact OwIntS.nil_ _ _ _
          · have HX : Hid (expB s d = true) := Lib.hid (by rw [HE.out, ← HK.out, show k = n by omega])
            have HF1 : Hid (R_SharesExplain_1 s d = true) := Lib.hid HX.out
            have HF2 : Hid (R_SharesExplain_0 s d = expL s d) := Lib.hid (by unfold R_SharesExplain_0; rw [if_pos HX.out])
            have hsh : shB d 7 = true := by unfold shB; rw [HP0.out, hl.out, ← HE.out, HX.out]; rfl
            have HG := Lib.hid (exp_good HS0.out hsh (by rw [hl.out]; exact h6))
            rw [hl.out] at HG
            have hz1 : w.heap.size ≤ w1.heap.size := (HS.out.below 0).size
            have HB1 : Hid (Below w.heap.size w w1) := Lib.hid (HS.out.below _)
            have HLIT := Lib.hid (lit_point w1 s)
            have HRD : Hid (Rd (w1.alloc (.cells #[.int .i64 0, .int .i64 s] 61)) (w1.alloc (.cells #[.int .i64 0, .int .i64 s] 61)).heap.size 2 A n (cP d)) := Lib.hid (((H.out.below HB1.out).below ((Below.refl _ _).alloc hz1 _)).more (by simp; omega))
            have hza : w1.heap.size ≤ (w1.alloc (.cells #[.int .i64 0, .int .i64 s] 61)).heap.size := by simp
            have hmk := fun W => run_make1 (P := Try.prog) Try.underlying27 info_int rfl n (by omega) (by omega) W
            clear hsh HNO
            go_wp2_with (at_builtin
                         refine wpList_append_rd rfl (.tmp 38) (.tmp 39) _ rfl w1.heap.size 61 _ 2 16 Try.underlying50 info_pt rfl (by decide) (.slice (some ⟨w1.heap.size, 0, none⟩) 1 1) 1 [.int .i64 0, .int .i64 s] rfl HLIT.out _ A n c (cP d) rfl HRD.out (cP_one d) (by unfold maxLen; omega) (by omega) hza ?_
                         intro v5 w5 hown hgr hat
                         obtain ⟨A5, c5, hv5, ho5⟩ := Ow.of_own hown
                         subst hv5
                         have HO5 : Hid (Ow w5 w1.heap.size w5.heap.size 61 2 A5 (1 + n) c5 (cP ((0, s) :: d))) := Lib.hid ho5
                         have HB5 : Hid (Below w1.heap.size w1 w5) := Lib.hid (below_grown ((Below.refl _ _).alloc (Nat.le_refl _) _) hgr (fun g e => by simp [Value.ownBlock] at e; omega) hza)
                         clear hown hgr hat ho5)
            refine (s_l2Through A5 (1 + n) c5 ((0, s) :: d) w5 HO5.out.rd (by omega) HG.out).mono ?_
            rintro e w6 ⟨g6, rfl, ho6, hb6⟩
            obtain ⟨hsm, At, nt, ct, rfl, hot⟩ := ho6
            have HOT := Lib.hid hot.rd
            have HTL := Lib.hid hot.len
            have hz5 := HB5.out.size
            have HB6 : Hid (Below w.heap.size w w6) := Lib.hid ((HB1.out.trans (HB5.out.mono hz1)).trans (hb6.mono (by omega)))
            have hnt : nt ≤ 1 + n := by rw [← hot.len]; exact thrS_len _ _ _ (Nat.le_refl _)
            have HEL : ∀ i, i < n → (expL s d).getD i 0 = (thrS ((0, s) :: d) (1 + n) (1 + n)).getD (i + 1) 0 := fun i hi => by
              have := expL_get s d i (by rw [hl.out]; exact hi)
              rwa [hl.out] at this
            have HEL := Lib.hid HEL
            have HEn : Hid ((expL s d).length = n) := Lib.hid (by rw [expL_length, hl.out])
            have HX0 : Hid (Ow (w6.alloc (.cells (Array.replicate n (.int .i64 0)) 3)) w6.heap.size (w6.heap.size + 1) 3 1 (some ⟨w6.heap.size, 0, none⟩) n n (cI ((expL s d).take 0 ++ List.replicate (n - 0) 0))) := Lib.hid (by
              have := Ow.zeros w6 (.int .i64 0) 3 n
              rw [cI_zeros] at this; exact this)
            have HBX : Hid (Below w6.heap.size w6 (w6.alloc (.cells (Array.replicate n (.int .i64 0)) 3))) := Lib.hid ((Below.refl _ _).alloc (Nat.le_refl _) _)
            clear hot hb6 hsm HLIT HRD hza HO5 HB5
            go_wp2
            clear hmk
            go_loopw [9] (fun i wr => ∃ k : Nat, k ≤ n ∧ i = .int .i64 k ∧ Hid (Ow wr w6.heap.size (w6.heap.size + 1) 3 1 (some ⟨w6.heap.size, 0, none⟩) n n (cI ((expL s d).take k ++ List.replicate (n - k) 0))) ∧ Hid (Below w6.heap.size w6 wr) ∧ Hid (w6.heap.size + 1 ≤ wr.heap.size)) (fun i _ => n - (intOf i).toNat)
            case atStart => exact ⟨0, Nat.zero_le _, rfl, HX0, HBX, Lib.hid (by simp)⟩
            case round =>
              clear HX0 HBX
              obtain ⟨j, hj, rfl, HX, HBX, HZX⟩ := hrel
              by_cases hltj : j < n
              · have j0 : (0 : Int) ≤ (j : Int) := by omega
                have j1 : (j : Int) < (n : Int) := by omega
                by_cases hin : j + 1 < nt
                · obtain ⟨ap, q, rfl, hap, hcq0, HQ⟩ := HOT.out.intAt hin
                  have hcq := (HBX.out.cell (p := ap.add (j + 1)) (by rw [add_block]; exact hap)).trans hcq0
                  obtain ⟨y, hcy, _⟩ := HX.out.intAt hltj
                  have hf := HX.out.free (by omega) j
                  have HX2 : Hid (Ow (wr.setCell ⟨w6.heap.size, j, none⟩ (.int .i64 q)) w6.heap.size (w6.heap.size + 1) 3 1 (some ⟨w6.heap.size, 0, none⟩) n n (cI ((expL s d).take (j + 1) ++ List.replicate (n - (j + 1)) 0))) := Lib.hid (by
                    have := HX.out.set j (.int .i64 q)
                    rw [cI_set] at this
                    rw [← copy_step HEn.out hltj, HEL.out j hltj, ← HQ.out]; exact this)
                  have HBX2 := Lib.hid (HBX.out.setCell (p := ⟨w6.heap.size, j, none⟩) (Nat.le_refl _) (.int .i64 q))
                  have HZX2 : Hid (w6.heap.size + 1 ≤ (wr.setCell ⟨w6.heap.size, j, none⟩ (.int .i64 q)).heap.size) := Lib.hid (by rw [World.size_setCell]; exact HZX.out)
                  clear HX HBX HZX hcq0 HQ
                  have j2 : (j : Int) + 1 < (nt : Int) := by omega
                  have j3 : (0 : Int) ≤ (j : Int) + 1 := by omega
                  have j4 : ((j : Int) + 1).toNat = j + 1 := by omega
                  rw [show ap.add (j + 1) = ⟨ap.block, ap.off + (j + 1), none⟩ by unfold Addr.add; simp] at hcq
                  go_wp2
                  go_roundw
                  case rel => exact ⟨j + 1, by omega, by go_num, HX2, HBX2, HZX2⟩
                  case measure => simp [intOf] <;> omega
                · have HX2 : Hid (Ow wr w6.heap.size (w6.heap.size + 1) 3 1 (some ⟨w6.heap.size, 0, none⟩) n n (cI ((expL s d).take (j + 1) ++ List.replicate (n - (j + 1)) 0))) := Lib.hid (by
                    rw [← fill_zero HEn.out hltj (by rw [HEL.out j hltj]; simp [List.getElem?_eq_none (show (thrS ((0, s) :: d) (1 + n) (1 + n)).length ≤ j + 1 by rw [HTL.out]; omega)])]
                    exact HX.out)
                  clear HX
                  have j2 : ¬ ((j : Int) + 1 < (nt : Int)) := by omega
                  go_wp2
                  go_roundw
                  case rel => exact ⟨j + 1, by omega, by go_num, HX2, HBX, HZX⟩
                  case measure => simp [intOf] <;> omega
              · obtain rfl : j = n := by omega
                have hz6 := HB6.out.size
                go_wp2
                go_ret2
                refine ⟨_, ret_vb HF1.out.symm, ?_, HB6.out.trans (HBX.out.mono hz6)⟩
                rw [HF2.out]
                have h1 := HX.out
                rw [Nat.sub_self, List.take_of_length_le (by rw [HEn.out]; exact Nat.le_refl _)] at h1
                refine ⟨by rw [HEn.out]; omega, _, _, _, rfl, ?_⟩
                have h2 : expL s d ++ List.replicate 0 (0 : Int) = expL s d := by simp
                rw [h2] at h1
                exact h1.widen hz6 HZX.out
    · have t6 : decide ((6 : Int) < (n : Int)) = true := decide_eq_true (by omega)
      have HF := no (by unfold expB; rw [decide_eq_false (by rw [hl.out]; exact h6)]; simp)
      clear no
      go_enter Try.func40, Try.ntmps40
      go_wp2_with fail
      refine (s_NumOk _ _).mono ?_
      rintro e w1 ⟨rfl, rfl⟩
      rw [hs]
      go_wp2
      go_ret2
      refine ⟨_, ret_vb HF.out.1.symm, ?_, Below.refl _ _⟩
      rw [HF.out.2]; exact OwIntS.nil_ _ _ _

end Go.Proofs.Ytbnobkojkfmccaa

/- Chapter 4: lists of points as results: marked, held; the numbers in them; SharesScale in the model. -/
namespace Go.Proofs.Ytbnobkojkfmccaa
open Go.RowKit
set_option maxRecDepth 100000

theorem iotaP_get (K : Int) (n k : Nat) (h : k < n) : (iotaP K n).getD k (0, 0) = (K + 2 * (k : Int), K + 2 * (k : Int) + 1) := by
  simp [iotaP, h]

/-! the numbers in a list of points -/
def numK (ps : List (Int × Int)) : Nat → Bool
  | 0 => true
  | k + 1 => numK ps k && (numB (px ps k) && numB (py ps k))
theorem numK_mono {ps : List (Int × Int)} {k n : Nat} (h : numK ps n = true) (hk : k ≤ n) : numK ps k = true := by
  induction n with
  | zero => rw [show k = 0 by omega]; rfl
  | succ n ih =>
    by_cases hc : k = n + 1
    · rw [hc]; exact h
    · exact ih (by simp only [numK, Bool.and_eq_true] at h; exact h.1) (by omega)
theorem numK_bad {ps : List (Int × Int)} {k n : Nat} (h : numK ps (k + 1) = false) (hk : k < n) : numK ps n = false := by
  apply Bool.eq_false_iff.2
  intro ht
  rw [numK_mono ht (show k + 1 ≤ n by omega)] at h; cases h
theorem numK_at {ps : List (Int × Int)} {k n : Nat} (h : numK ps n = true) (hk : k < n) : (0 ≤ px ps k ∧ px ps k ≤ 112) ∧ 0 ≤ py ps k ∧ py ps k ≤ 112 := by
  have := numK_mono h (show k + 1 ≤ n by omega)
  simp only [numK, Bool.and_eq_true] at this
  exact ⟨(numB_iff _).1 this.2.1, (numB_iff _).1 this.2.2⟩

end Go.Proofs.Ytbnobkojkfmccaa

/- Chapter 3 in the model: elimination. -/
namespace Go.Proofs.Ytbnobkojkfmccaa
open Go.RowKit
set_option maxRecDepth 100000

def augR (d : List (List Int)) (r : List Int) (k : Nat) : List (List Int) := (List.range k).map fun i => d.getD i [] ++ [r.getD i 0]
theorem augR_succ (d : List (List Int)) (r : List Int) (k : Nat) : augR d r (k + 1) = augR d r k ++ [d.getD k [] ++ [r.getD k 0]] := by simp [augR, List.range_succ]
theorem getD_snoc {α : Type} (l : List α) (x z : α) (j : Nat) : (l ++ [x]).getD j z = if j < l.length then l.getD j z else if j = l.length then x else z := by
  simp only [List.getD_eq_getElem?_getD, List.getElem?_append]
  by_cases h : j < l.length
  · rw [if_pos h, if_pos h]
  · rw [if_neg h, if_neg h]
    by_cases h2 : j = l.length
    · rw [if_pos h2, h2, Nat.sub_self]; rfl
    · rw [if_neg h2, List.getElem?_eq_none (by simp; omega)]; rfl
theorem own_apart {w : World} {lo e n g : Nat} {v : Value} {xs : List Value} {ca : Array Value} (h : w.ownsRow lo e 1 v n xs) (he : e ≠ 3) (hg : w.heap[g]? = some (.cells ca 3 (0, 0))) : v.ownBlock ≠ some g := by
  intro e1
  rcases h.2 with ⟨rfl, _⟩ | ⟨g', cap, cur, rfl, _, hh, _⟩
  · simp [Value.ownBlock] at e1
  · simp [Value.ownBlock] at e1
    subst e1
    rw [hg] at hh; injection hh with hh; injection hh with _ ht
    exact he ht.symm
theorem own_in {w : World} {lo e n g : Nat} {v : Value} {xs : List Value} (h : w.ownsRow lo e 1 v n xs) (hg : v.ownBlock = some g) : g < w.heap.size := by
  rcases h.2 with ⟨rfl, _⟩ | ⟨g', cap, cur, rfl, _, hh, _⟩
  · simp [Value.ownBlock] at hg
  · simp [Value.ownBlock] at hg
    subst hg
    exact (Array.getElem?_eq_some_iff.1 hh).1
/-- one row more -/
theorem grow_rows {wr w2 W w3 : World} {lo i co L : Nat} {Ao : Option Addr} {ws : List Value} {D : List (List Int)} {v2 v3 : Value} {x : List Int}
    (HN : wr.ownsRow lo 27 1 (.slice Ao i co) i ws) (HO : OwR wr lo wr.heap.size Ao i co ws D) (hlo : lo ≤ wr.heap.size) (hb2 : Below wr.heap.size wr w2) (hrow : w2.ownsRow wr.heap.size 3 1 v2 L (cI x)) (hx : L ≤ 1048576)
    (hW : Below w2.heap.size w2 W) (hown : w3.ownsRow lo 27 1 v3 (i + 1) (ws ++ [v2])) (hg : W.grownBy w3 (Value.ownBlock (.slice Ao i co))) :
    ∃ A3 c3, v3 = .slice A3 (i + 1) c3 ∧ w3.ownsRow lo 27 1 (.slice A3 (i + 1) c3) (i + 1) (ws ++ [v2]) ∧ OwR w3 lo w3.heap.size A3 (i + 1) c3 (ws ++ [v2]) (D ++ [x]) := by
  obtain ⟨A3, c3, rfl, ho3⟩ := Ow.of_own hown
  obtain ⟨h1, h2, h3, h4⟩ := HO
  have hlw : ws.length = i := by have := h1.1; omega
  have hz2 := hb2.size
  have hzW := hW.size
  have hz3 : w2.heap.size ≤ w3.heap.size := Nat.le_trans hzW hg.size
  -- a row of ints stays what it was
  have keep : ∀ {l h' : Nat} {u : Value} {y : List Int}, OwIntS w2 l h' u y → h' ≤ w2.heap.size → OwIntS w3 l h' u y := by
    intro l h' u y hu hh
    by_cases hy : y = []
    · subst hy; exact hu.empty _ _ _
    · obtain ⟨g, hg1, hg2, hgb, ht, cs, hcs⟩ := hu.tight hy
      have hne : Value.ownBlock (.slice Ao i co) ≠ some g := by
        intro e
        have hgw := own_in HN e
        exact own_apart HN (by decide) (by rw [← hb2.block g hgw]; exact hcs) e
      have hgk : w3.heap[g]? = w2.heap[g]? := by
        rw [hg.block g (by omega) (fun e => hne e.symm), hW.block g (by omega)]
      obtain ⟨hs, A, n, c, rfl, r⟩ := hu
      refine ⟨hs, A, n, c, rfl, r.1, r.2.1, ?_⟩
      rcases r.2.2 with r0 | ⟨g2, cs2, hA, q1, q2, q3, q4⟩
      · exact .inl r0
      · have : g2 = g := by rw [hA] at hgb; simpa [Value.ownBlock] using hgb
        subst this
        exact .inr ⟨g2, cs2, hA, q1, q2, by rw [hgk]; exact q3, q4⟩
  have hv2 : OwIntS w2 wr.heap.size w2.heap.size v2 x := own_done rfl hrow hx
  have gv : ∀ k, (ws ++ [v2]).getD k undef = if k < i then ws.getD k undef else if k = i then v2 else undef := by intro k; rw [getD_snoc, hlw]
  have gd : ∀ k, (D ++ [x]).getD k [] = if k < i then D.getD k [] else if k = i then x else [] := by intro k; rw [getD_snoc, h2]
  refine ⟨A3, c3, rfl, hown, ho3, by simp [h2], fun k hk => ?_, fun j k hj hk hjk hxj hxk => ?_⟩
  · rw [gv, gd]
    by_cases hki : k < i
    · rw [if_pos hki, if_pos hki]
      exact (keep ((h3 k hki).below hb2 (Nat.le_refl _)) hz2).widen (Nat.le_refl _) (by omega)
    · have : k = i := by omega
      subst this
      rw [if_neg hki, if_neg hki, if_pos rfl, if_pos rfl]
      exact (keep hv2 (Nat.le_refl _)).widen hlo hz3
  · rw [gd] at hxj hxk
    rw [gv, gv]
    by_cases hji : j < i
    · rw [if_pos hji] at hxj
      rw [if_pos hji]
      by_cases hki : k < i
      · rw [if_pos hki] at hxk
        rw [if_pos hki]
        exact h4 j k hji hki hjk hxj hxk
      · have : k = i := by omega
        subst this
        rw [if_neg hki, if_pos rfl] at hxk
        rw [if_neg hki, if_pos rfl]
        obtain ⟨g, _, a2, b2, _⟩ := (h3 j hji).tight hxj
        obtain ⟨g', a1, _, b1, _⟩ := hv2.tight hxk
        rw [b1, b2]; intro e; injection e with e; omega
    · have : j = i := by omega
      subst this
      rw [if_neg hji, if_pos rfl] at hxj
      rw [if_neg hji, if_pos rfl]
      have hki : k < j := by omega
      rw [if_pos hki] at hxk
      rw [if_pos hki]
      obtain ⟨g, _, a2, b2, _⟩ := (h3 k hki).tight hxk
      obtain ⟨g', a1, _, b1, _⟩ := hv2.tight hxj
      rw [b1, b2]; intro e; injection e with e; omega

theorem below_drew {B : Nat} {w w' : World} (h : Below B w w') : Below B w w'.drew := ⟨h.os, h.tape, h.output, h.size, h.block⟩
theorem hid_size {w : World} {g g' : Nat} {o : Obj} (e : g' = g) (h : w.heap[g']? = some o) : w.heap[g]? = some o := e ▸ h
theorem own_to {w w' : World} {base e n : Nat} {v : Value} {xs : List Value} (h : w.ownsRow base e 1 v n xs) (hb : Below w.heap.size w w') : w'.ownsRow base e 1 v n xs := ownsRow_below h hb
section
variable {ops : Array Oper} {o : Oper} {a : Act} {K : Act → World → Prop} {Q : Exit → Act → World → Prop} {E : Prop} {W wr : World}
/-- append([]int{}, x...) -/
theorem step_lit (hgd : o.guard = none) (s x : Operand)
    (ho : o.op = .call { callee := .builtin .append, args := #[s, x], argTypes := #[27, 27] })
    {lo B m c : Nat} {A : Option Addr} {zs : List Int} (hs : a.eval s = .slice (some ⟨B, 0, none⟩) 0 0) (hx : a.eval x = .slice A m c) (hB : wr.heap.size ≤ B) (hlit : W.heap[B]? = some (.cells #[] 3 (0, 0)))
    (hr : Rd wr lo 1 A m (cI zs)) (hlo : lo ≤ wr.heap.size) (hbel : Below wr.heap.size wr W) (hm : m ≤ 1000)
    (h : ∀ v' w', Hid (w'.ownsRow wr.heap.size 3 1 v' m (cI zs)) → Hid (Below wr.heap.size wr w') → Hid (∀ (g : Nat) (u : Value), W.heap[g]? = some (Obj.cells #[u] 3 (0, 0)) → w'.heap[g]? = some (Obj.cells #[u] 3 (0, 0))) → K (a.put o.dst v') w') :
    if Region.wanted o (yielded ops a.tmps) = true then Oper.wp Try.prog o a W K Q else E := by
  refine step_append_rd hgd s x _ ho wr.heap.size 3 _ 1 8 Try.underlying27 info_int rfl (by decide) _ 0 [] hs (own_lit0 hB hlit) _ _ m c (cI zs) hx (hr.below (hbel.mono hlo)) (cI_one _) (by unfold maxLen; omega) (by omega) hbel.size ?_
  intro v1 w1 hown hg _
  refine h v1 w1 (Lib.hid (by simpa using hown)) (Lib.hid (below_grown hbel hg (own_block (own_lit0 (e := 3) (size := 1) hB hlit)) hbel.size)) (Lib.hid fun g u hu => ?_)
  rw [hg.block g (Array.getElem?_eq_some_iff.1 hu).1 ?_]
  · exact hu
  · intro e
    simp [Value.ownBlock] at e
    subst e
    rw [hlit] at hu; simp at hu
/-- append(v, q) -/
theorem step_lit2 {w1 : World} (hgd : o.guard = none) (s x : Operand)
    (ho : o.op = .call { callee := .builtin .append, args := #[s, x], argTypes := #[27, 27] })
    {g m : Nat} {zs : List Int} {v : Value} {q : Int} (hs : a.eval s = v) (hx : a.eval x = .slice (some ⟨g, 0, none⟩) 1 1) (hown : w1.ownsRow wr.heap.size 3 1 v m (cI zs)) (hb1 : Below wr.heap.size wr w1) (hW : Below w1.heap.size w1 W)
    (hl : W.heap[g]? = some (.cells #[.int .i64 q] 3 (0, 0))) (hm : m ≤ 1000)
    (h : ∀ A' c' w', Hid (w'.ownsRow wr.heap.size 3 1 (.slice A' (m + 1) c') (m + 1) (cI (zs ++ [q]))) → Hid (Below wr.heap.size wr w') → K (a.put o.dst (.slice A' (m + 1) c')) w') :
    if Region.wanted o (yielded ops a.tmps) = true then Oper.wp Try.prog o a W K Q else E := by
  have hb2 : Below wr.heap.size wr W := hb1.trans (hW.mono hb1.size)
  refine step_append_rd hgd s x _ ho wr.heap.size 3 _ 1 8 Try.underlying27 info_int rfl (by decide) v m (cI zs) hs (own_to hown hW) _ _ 1 1 (cI [q]) hx (lit_at hl) (cI_one _) (by unfold maxLen; omega) (by omega) hb2.size ?_
  intro v1 w1 hown' hg _
  obtain ⟨A1, c1, rfl, _⟩ := Ow.of_own hown'
  exact h A1 c1 w1 (Lib.hid (by rw [cI_append]; exact hown')) (Lib.hid (below_grown hb2 hg (own_block hown) hb2.size))
/-- append(rows, v) -/
theorem step_lit3 {w w2 : World} (hgd : o.guard = none) (s x : Operand)
    (ho : o.op = .call { callee := .builtin .append, args := #[s, x], argTypes := #[22, 22] })
    {g i co L : Nat} {Ao : Option Addr} {ws : List Value} {D : List (List Int)} {zs : List Int} {v : Value} (hs : a.eval s = .slice Ao i co) (hx : a.eval x = .slice (some ⟨g, 0, none⟩) 1 1)
    (HO : wr.ownsRow w.heap.size 27 1 (.slice Ao i co) i ws ∧ OwR wr w.heap.size wr.heap.size Ao i co ws D) (HB : Below w.heap.size w wr) (hown : w2.ownsRow wr.heap.size 3 1 v L (cI zs)) (hb2 : Below wr.heap.size wr w2) (hW : Below w2.heap.size w2 W)
    (hl : W.heap[g]? = some (.cells #[v] 27 (0, 0))) (hi : i ≤ 1000) (hL : L ≤ 1000)
    (h : ∀ A3 c3 w3, Hid (w3.ownsRow w.heap.size 27 1 (.slice A3 (i + 1) c3) (i + 1) (ws ++ [v]) ∧ OwR w3 w.heap.size w3.heap.size A3 (i + 1) c3 (ws ++ [v]) (D ++ [zs])) → Hid (Below w.heap.size w w3) → K (a.put o.dst (.slice A3 (i + 1) c3)) w3) :
    if Region.wanted o (yielded ops a.tmps) = true then Oper.wp Try.prog o a W K Q else E := by
  have hz := HB.size
  have hb3 : Below wr.heap.size wr W := hb2.trans (hW.mono hb2.size)
  have hb4 : Below w.heap.size w W := HB.trans (hb3.mono hz)
  have one : ∀ u ∈ [v], u.oneCell' = true := by
    intro u hu
    obtain rfl : u = v := by simpa using hu
    obtain ⟨A2, c2, rfl, _⟩ := Ow.of_own hown
    rfl
  refine step_append_rd hgd s x _ ho w.heap.size 27 _ 1 24 Try.underlying22 info_row rfl (by decide) (.slice Ao i co) i ws hs (own_to HO.1 (hb3.mono (Nat.le_refl _))) _ _ 1 1 [v] hx (lit_at hl) one (by unfold maxLen; omega) (by omega) hb4.size ?_
  intro v3 w3 hown' hg _
  obtain ⟨A3, c3, rfl, h1, h2⟩ := grow_rows HO.1 HO.2 hz hb2 hown (by omega) hW hown' hg
  exact h A3 c3 w3 (Lib.hid ⟨h1, h2⟩) (Lib.hid (below_grown hb4 hg (own_block HO.1) hb4.size))
end
end Go.Proofs.Ytbnobkojkfmccaa

/- Chapter 4: SharesScale in the model. -/
namespace Go.Proofs.Ytbnobkojkfmccaa
open Go.RowKit
set_option maxRecDepth 100000

def sclP (ps : List (Int × Int)) (b : Int) (k : Nat) : List (Int × Int) := (List.range k).map fun i => (px ps i, py ps i * b % 113)
theorem sclP_succ (ps : List (Int × Int)) (b : Int) (k : Nat) : sclP ps b (k + 1) = sclP ps b k ++ [(px ps k, py ps k * b % 113)] := by simp [sclP, List.range_succ]
theorem sclP_length (ps : List (Int × Int)) (b : Int) (k : Nat) : (sclP ps b k).length = k := by simp [sclP]
def R_SharesScale_1 (d : List (Int × Int)) (b : Int) : Bool := numK d d.length && numB b
def R_SharesScale_0 (d : List (Int × Int)) (b : Int) : List (Int × Int) := if R_SharesScale_1 d b = true then sclP d b d.length else []
theorem cP_append (ps qs : List (Int × Int)) : cP (ps ++ qs) = cP ps ++ cP qs := by simp [cP]
theorem lit_pt_at {w : World} {B e : Nat} {u v : Value} (h : w.heap[B]? = some (.cells #[u, v] e (0, 0))) : Rd w (B + 1) 2 (some ⟨B, 0, none⟩) 1 [u, v] :=
  ⟨rfl, fun _ => ⟨_, rfl, Nat.lt_succ_self _, fun j x hx => by
    have hj : j < 2 := by have := (List.getElem?_eq_some_iff.1 hx).1; simpa using this
    rw [show (⟨B, 0, none⟩ : Addr).add j = ⟨B, 0 + j, none⟩ from addr_add B 0 j, Nat.zero_add, cell_of_row w B j _ _ _ h]
    simpa using hx⟩⟩
theorem done_pts {w1 : World} {B k : Nat} {v : Value} {ys : List (Int × Int)} (h : w1.ownsRow B 61 2 v k (cP ys)) (hs : k ≤ 1048576) : OwPointS w1 B w1.heap.size v ys := by
  obtain ⟨A, c, rfl, ho⟩ := Ow.of_own h
  exact ⟨by have := ho.plen; omega, A, _, c, rfl, ho⟩
section
variable {ops : Array Oper} {o : Oper} {a : Act} {K : Act → World → Prop} {Q : Exit → Act → World → Prop} {E : Prop} {W wr w : World}
/-- append(out, Point) -/
theorem step_pt (hgd : o.guard = none) (s x : Operand)
    (ho : o.op = .call { callee := .builtin .append, args := #[s, x], argTypes := #[50, 50] })
    {g k co : Nat} {A : Option Addr} {ps : List (Int × Int)} {p q : Int} (hs : a.eval s = .slice A k co) (hx : a.eval x = .slice (some ⟨g, 0, none⟩) 1 1)
    (HO : wr.ownsRow w.heap.size 61 2 (.slice A k co) k (cP ps)) (HB : Below w.heap.size w wr) (hW : Below wr.heap.size wr W)
    (hl : W.heap[g]? = some (.cells #[.int .i64 p, .int .i64 q] 61 (0, 0))) (hk : k ≤ 1048576)
    (h : ∀ A3 c3 w3, Hid (w3.ownsRow w.heap.size 61 2 (.slice A3 (k + 1) c3) (k + 1) (cP (ps ++ [(p, q)]))) → Hid (Below w.heap.size w w3) → K (a.put o.dst (.slice A3 (k + 1) c3)) w3) :
    if Region.wanted o (yielded ops a.tmps) = true then Oper.wp Try.prog o a W K Q else E := by
  have hz := HB.size
  have hb4 : Below w.heap.size w W := HB.trans (hW.mono hz)
  refine step_append_rd hgd s x _ ho w.heap.size 61 _ 2 16 Try.underlying50 info_pt rfl (by decide) (.slice A k co) k (cP ps) hs (ownsRow_below HO hW) _ _ 1 1 (cP [(p, q)]) hx (lit_pt_at hl) (cP_one _) (by unfold maxLen; omega) (by omega) hb4.size ?_
  intro v3 w3 hown' hg _
  obtain ⟨A3, c3, rfl, h1⟩ := Ow.of_own hown'
  exact h A3 c3 w3 (Lib.hid (by rw [cP_append]; exact hown')) (Lib.hid (below_grown hb4 hg (own_block HO) hb4.size))
end

end Go.Proofs.Ytbnobkojkfmccaa

/- Chapter 4: the program's closures and its iterator over shares. -/
namespace Go.Proofs.Ytbnobkojkfmccaa
open Go.RowKit Go.Shelf
theorem i_shares (cnt : Nat) (fn : Fn) (bs lb : Array Value) (w : World) :
    Calls Try.prog 117 #[.int .i64 cnt, .func fn bs lb] w fun e w' => e = .returned (.func (.func 121) #[] #[.pointer (some ⟨w.heap.size, 0, none⟩), .pointer (some ⟨w.heap.size + 1, 0, none⟩)]) ∧ w' = (w.alloc (.cells #[.int .i64 cnt] 3)).alloc (.cells #[.func fn bs lb] 139) := by
  go_enter Try.func117, Try.ntmps117
  go_wp2
  go_ret
  exact ⟨rfl, rfl⟩

/-- what a round keeps -/
def KpS (n₀ Bs : Nat) (sv : Value) (W W' : World) : Prop := Below n₀ W W' ∧ (Boxed W Bs 139 sv → Boxed W' Bs 139 sv)
theorem KpS_t {n₀ Bs : Nat} {sv : Value} {A B C : World} (h : KpS n₀ Bs sv A B) (k : KpS n₀ Bs sv B C) : KpS n₀ Bs sv A C := ⟨h.1.trans k.1, fun x => k.2 (h.2 x)⟩
theorem KpS_b {n₀ Bs : Nat} {sv : Value} {w : World} (hn : n₀ ≤ w.heap.size) (W : World) (l : Nat) (o o' : Obj) (hl : w.heap.size ≤ l) (h : W.heap[l]? = some o) (hc : o.isCells = false) (hw : o.isWalk = false) : KpS n₀ Bs sv W (W.putObj l o') :=
  ⟨belowK_b hn W l o o' hl h hc hw, fun hb => by
    by_cases e : Bs = l
    · subst e; rw [show W.heap[Bs]? = _ from hb] at h; cases h; cases hc
    · exact (World.putObj_heap_other (fun e' => e e')).trans hb⟩
def uptoF (f : Nat → Int × Int) (k : Nat) : List (Int × Int) := (List.range k).map f
theorem uptoF_succ (f : Nat → Int × Int) (k : Nat) : uptoF f (k + 1) = uptoF f k ++ [f k] := by simp [uptoF, List.range_succ]
theorem uptoF_length (f : Nat → Int × Int) (k : Nat) : (uptoF f k).length = k := by simp [uptoF]
theorem grown_of_below {w w' : World} (h : Below w.heap.size w w') : w.grownBy w' none := ⟨h.os, h.tape, h.output, h.size, fun k hk _ => h.block k hk⟩
def encP (p : Int × Int) : Array Value := #[.agg #[.int .i64 p.1, .int .i64 p.2]]
end Go.Proofs.Ytbnobkojkfmccaa

/- Chapter 4: the iterator and what lists it, over SharesScale's closure. -/
namespace Go.Proofs.Ytbnobkojkfmccaa
open Go.RowKit Go.Shelf
end Go.Proofs.Ytbnobkojkfmccaa

/- Chapter 4: the list of what an iterator over shares gives, over SharesScale's closure. -/
namespace Go.Proofs.Ytbnobkojkfmccaa
open Go.RowKit Go.Shelf
set_option maxRecDepth 100000
attribute [local go_sem] Oper.semAt_some

theorem run_make0 {P : Program} {t e : TypeId} {z : Value} {bytes size : Nat} (ht : P.underlying t = some (.slice e)) (hi : (P.info? e).map (fun i => (i.zero, i.size, i.bytes)) = some (some z, size, bytes))
    (n : Nat) (hb : bytes * n ≤ 281474976710656) (hn : n ≤ 9223372036854775807) (w : World) :
    (Instr.makeSlice t (.int .i64 0) (.int .i64 (n : Int))).run P w = .ok (.slice (some ⟨w.heap.size, 0, none⟩) 0 n) (w.alloc (.cells (madeCells z.cells (n * size)) e)) := by
  obtain ⟨i, hi, hz0, hz1, hz2⟩ := info_parts hi
  have hb' : (i.bytes : Int) * (n : Int) ≤ 281474976710656 := by
    have h : ((i.bytes * n : Nat) : Int) ≤ 281474976710656 := by rw [hz2]; omega
    rwa [Int.natCast_mul] at h
  have hr := run_make (P := P) w t e i z ht hi hz0 .i64 .i64 0 n (by omega) (by omega) hb' (by omega)
  simp only [Int.toNat_natCast, hz1] at hr
  exact hr
theorem own_make0 (w : World) (cs : Array Value) (e size n : Nat) (hs : cs.size = n * size) (hn : n ≤ maxLen) : (w.alloc (.cells cs e)).ownsRow w.heap.size e size (.slice (some ⟨w.heap.size, 0, none⟩) 0 n) 0 [] :=
  ⟨by simp, .inr ⟨w.heap.size, n, cs, rfl, Nat.le_refl _, heap_alloc_new _ _, Nat.zero_le _, hn, hs, by simp⟩⟩
theorem cell_two_new (w : World) (x y : Value) (t : TypeId) : ∀ j u, [x, y][j]? = some u → (w.alloc (.cells #[x, y] t)).cell? ((⟨w.heap.size, 0, none⟩ : Addr).add j) = some u := by
  intro j u hj
  rw [addr_add, Nat.zero_add, World.cell?_alloc_new]
  simpa using hj
theorem madeCells_size (z : Array Value) (n : Nat) : (madeCells z n).size = n := by simp [madeCells]

end Go.Proofs.Ytbnobkojkfmccaa

/- Chapter 8 in the program: gate by gate. -/
namespace Go.Proofs.Ytbnobkojkfmccaa
open Go.RowKit
set_option maxRecDepth 100000

theorem own_val {w1 : World} {B k : Nat} {v : Value} {ys : List Int} (h : w1.ownsRow B 3 1 v k (cI ys)) : ∃ A c, v = .slice A k c ∧ Ow w1 B w1.heap.size 3 1 A k c (cI ys) := by
  obtain ⟨A, c, rfl, ho⟩ := Ow.of_own h
  exact ⟨A, c, rfl, ho⟩

set_option maxHeartbeats 8000000 in
theorem i_gateByGate (F : FuncId) (caps : Array Value) (f : Int × Int × Int → List Int → Int) (Ag : Option Addr) (ng cg : Nat) (gs : List (Int × Int × Int)) (w : World) (hg : Rd w w.heap.size 1 Ag ng (gs.map gI)) (hn : ng ≤ 16)
    (eg : ∀ args W, (callFunc F args).run Try.prog W = .ok (.enter F args) W)
    (hS : ∀ W k A c, Below w.heap.size w W → k < ng → Rd W W.heap.size 1 A k (cI (tellK f gs k)) → Calls Try.prog F (#[gI (gt gs k), .slice A k c] ++ caps) W fun e W' => e = .returned (.int .i64 (f (gt gs k) (tellK f gs k))) ∧ Below W.heap.size W W') :
    Calls Try.prog 67 #[.slice Ag ng cg, .func (.func F) #[] caps] w fun e w' => ∃ A c, e = .returned (.slice A ng c) ∧ OwIntS w' w.heap.size w'.heap.size (.slice A ng c) (tellK f gs ng) ∧ Below w.heap.size w w' := by
  have hl : gs.length = ng := by have := hg.1; rw [List.length_map] at this; omega
  have HL := Lib.hid hl
  have HG := Lib.hid hg
  have HS := Lib.hid hS
  clear hg hS hl
  have hmk := fun W => run_make0 (P := Try.prog) Try.underlying27 info_int ng (by omega) (by omega) W
  have hcap : (madeCells (Value.int .i64 0).cells (ng * 1)).size = ng * 1 := madeCells_size _ _
  obtain ⟨cs, hcs⟩ : ∃ cs, madeCells (Value.int .i64 0).cells (ng * 1) = cs := ⟨_, rfl⟩
  rw [hcs] at hmk hcap
  clear hcs
  have HO0 : Hid ((w.alloc (.cells cs 3)).ownsRow w.heap.size 3 1 (.slice (some ⟨w.heap.size, 0, none⟩) 0 ng) 0 (cI [])) := Lib.hid (own_make0 w cs 3 1 ng hcap (by unfold maxLen; omega))
  have HB0 : Hid (Below w.heap.size w (w.alloc (.cells cs 3))) := Lib.hid ((Below.refl _ _).alloc (Nat.le_refl _) _)
  clear hcap
  have c0 : (0 : Int) ≤ (ng : Int) := by omega
  go_enter Try.func67, Try.ntmps67
  go_wp2
  go_loopw [5, 13] (fun o i wr => ∃ k : Nat, k ≤ ng ∧ i = .int .i64 k ∧ Hid (wr.ownsRow w.heap.size 3 1 o k (cI (tellK f gs k))) ∧ Hid (Below w.heap.size w wr)) (fun _ i _ => ng - (intOf i).toNat)
  case atStart => exact ⟨0, Nat.zero_le _, rfl, HO0, HB0⟩
  case round =>
    clear HO0 HB0
    obtain ⟨k, hk, rfl, HO, HB⟩ := hrel
    obtain ⟨A, c, rfl, ho⟩ := own_val HO.out
    have HRD := Lib.hid ho.rd
    clear ho
    by_cases hlt : k < ng
    · obtain ⟨a, hA, hab, hc⟩ := HG.out.2 (by omega)
      have hck0 := hc k (gI (gt gs k)) (by have := HL.out; simp [gt, show k < gs.length by omega])
      have hck := (HB.out.cell (p := a.add k) (by rw [add_block]; exact hab)).trans hck0
      have i0 : (0 : Int) ≤ (k : Int) := by omega
      have i1 : (k : Int) < (ng : Int) := by omega
      clear hc hck0
      subst hA
      go_wp2_with fail
      refine (HS.out wr k A c HB.out hlt HRD.out).mono ?_
      rintro e w2 ⟨rfl, hb⟩
      generalize hfv : f (gt gs k) (tellK f gs k) = fv
      have HE : Hid (tellK f gs (k + 1) = tellK f gs k ++ [fv]) := Lib.hid (by rw [tellK, hfv])
      have HB2 : Hid (Below w.heap.size w w2) := Lib.hid (HB.out.trans (hb.mono HB.out.size))
      have HO2 := Lib.hid (ownsRow_below HO.out hb)
      have HOa := Lib.hid (HO2.out.alloc (.cells #[.int .i64 fv] 3))
      have HBa := Lib.hid (HB2.out.alloc HB2.out.size (.cells #[.int .i64 fv] 3))
      have HRa : Hid (Rd (w2.alloc (.cells #[.int .i64 fv] 3)) (w2.heap.size + 1) 1 (some ⟨w2.heap.size, 0, none⟩) 1 (cI [fv])) := Lib.hid (by
        have := (Ow.new w2 #[.int .i64 fv] 3 1 1 rfl).rd; exact this)
      clear HO HB hb HRD hfv
      go_wp2_with (at_builtin; refine wpList_append_rd rfl (.tmp 17) (.tmp 22) _ rfl w.heap.size 3 _ 1 8 Try.underlying27 info_int rfl (by decide) (.slice A k c) k (cI (tellK f gs k)) rfl HOa.out _ _ 1 1 (cI [fv]) rfl HRa.out (cI_one _) (by unfold maxLen; omega) (by omega) (by have := HBa.out.size; omega) ?_; intro v1 w3 hown hg hat; have HOWN := Lib.hid hown; have HG2 := Lib.hid hg; clear hown hg hat)
      have HO3 : Hid (w3.ownsRow w.heap.size 3 1 v1 (k + 1) (cI (tellK f gs (k + 1)))) := Lib.hid (by
        rw [HE.out, cI_append]; exact HOWN.out)
      have HB3 : Hid (Below w.heap.size w w3) := Lib.hid (below_append HBa.out HG2.out (own_block HOa.out) HBa.out.size)
      clear HOWN HG2 HOa HRa HBa
      go_roundw
      case rel => exact ⟨k + 1, by omega, by go_num, HO3, HB3⟩
      case measure => simp [intOf] <;> omega
    · have hkn : k = ng := by omega
      subst hkn
      have HOF : Hid (OwIntS wr w.heap.size wr.heap.size (.slice A k c) (tellK f gs k)) := Lib.hid (own_done rfl HO.out (by omega))
      clear HO
      go_wp2
      go_ret
      exact ⟨_, _, rfl, HOF.out, HB.out⟩
end Go.Proofs.Ytbnobkojkfmccaa

/- Chapter 8 in the program: what is told of a gate. -/
namespace Go.Proofs.Ytbnobkojkfmccaa
open Go.RowKit
set_option maxRecDepth 100000

theorem ta_input_input (v0 : Value) (W : World) : (Instr.typeAssert (.iface 123 (.agg #[v0])) 88 123 true).run Try.prog W = .ok (.tuple #[.agg #[v0], .bool true]) W := by kernel_rfl
theorem ta_input_const (v0 : Value) (W : World) : (Instr.typeAssert (.iface 123 (.agg #[v0])) 88 125 true).run Try.prog W = .ok (.tuple #[.agg #[.int .i64 0], .bool false]) W := by kernel_rfl
theorem ta_input_linear (v0 : Value) (W : World) : (Instr.typeAssert (.iface 123 (.agg #[v0])) 88 129 true).run Try.prog W = .ok (.tuple #[.agg #[.int .i64 0, .int .i64 0, .int .i64 0], .bool false]) W := by kernel_rfl
theorem ta_input_product (v0 : Value) (W : World) : (Instr.typeAssert (.iface 123 (.agg #[v0])) 88 131 true).run Try.prog W = .ok (.tuple #[.agg #[.int .i64 0, .int .i64 0], .bool false]) W := by kernel_rfl
theorem ta_const_input (v0 : Value) (W : World) : (Instr.typeAssert (.iface 125 (.agg #[v0])) 88 123 true).run Try.prog W = .ok (.tuple #[.agg #[.int .i64 0], .bool false]) W := by kernel_rfl
theorem ta_const_const (v0 : Value) (W : World) : (Instr.typeAssert (.iface 125 (.agg #[v0])) 88 125 true).run Try.prog W = .ok (.tuple #[.agg #[v0], .bool true]) W := by kernel_rfl
theorem ta_const_linear (v0 : Value) (W : World) : (Instr.typeAssert (.iface 125 (.agg #[v0])) 88 129 true).run Try.prog W = .ok (.tuple #[.agg #[.int .i64 0, .int .i64 0, .int .i64 0], .bool false]) W := by kernel_rfl
theorem ta_const_product (v0 : Value) (W : World) : (Instr.typeAssert (.iface 125 (.agg #[v0])) 88 131 true).run Try.prog W = .ok (.tuple #[.agg #[.int .i64 0, .int .i64 0], .bool false]) W := by kernel_rfl
theorem ta_linear_input (v0 v1 v2 : Value) (W : World) : (Instr.typeAssert (.iface 129 (.agg #[v0, v1, v2])) 88 123 true).run Try.prog W = .ok (.tuple #[.agg #[.int .i64 0], .bool false]) W := by kernel_rfl
theorem ta_linear_const (v0 v1 v2 : Value) (W : World) : (Instr.typeAssert (.iface 129 (.agg #[v0, v1, v2])) 88 125 true).run Try.prog W = .ok (.tuple #[.agg #[.int .i64 0], .bool false]) W := by kernel_rfl
theorem ta_linear_linear (v0 v1 v2 : Value) (W : World) : (Instr.typeAssert (.iface 129 (.agg #[v0, v1, v2])) 88 129 true).run Try.prog W = .ok (.tuple #[.agg #[v0, v1, v2], .bool true]) W := by kernel_rfl
theorem ta_linear_product (v0 v1 v2 : Value) (W : World) : (Instr.typeAssert (.iface 129 (.agg #[v0, v1, v2])) 88 131 true).run Try.prog W = .ok (.tuple #[.agg #[.int .i64 0, .int .i64 0], .bool false]) W := by kernel_rfl
theorem ta_product_input (v0 v1 : Value) (W : World) : (Instr.typeAssert (.iface 131 (.agg #[v0, v1])) 88 123 true).run Try.prog W = .ok (.tuple #[.agg #[.int .i64 0], .bool false]) W := by kernel_rfl
theorem ta_product_const (v0 v1 : Value) (W : World) : (Instr.typeAssert (.iface 131 (.agg #[v0, v1])) 88 125 true).run Try.prog W = .ok (.tuple #[.agg #[.int .i64 0], .bool false]) W := by kernel_rfl
theorem ta_product_linear (v0 v1 : Value) (W : World) : (Instr.typeAssert (.iface 131 (.agg #[v0, v1])) 88 129 true).run Try.prog W = .ok (.tuple #[.agg #[.int .i64 0, .int .i64 0, .int .i64 0], .bool false]) W := by kernel_rfl
theorem ta_product_product (v0 v1 : Value) (W : World) : (Instr.typeAssert (.iface 131 (.agg #[v0, v1])) 88 131 true).run Try.prog W = .ok (.tuple #[.agg #[v0, v1], .bool true]) W := by kernel_rfl

set_option maxHeartbeats 8000000 in
theorem i_valueOf (g : Int × Int × Int) (m t : Int) (A3 : Option Addr) (n3 c3 : Nat) (ins : List Int) (A : Option Addr) (n c : Nat) (vs : List Int) (w : World) (h : Rd w w.heap.size 1 A n (cI vs)) (h3 : Rd w w.heap.size 1 A3 n3 (cI ins)) (hm : m = n3) (hg : gateB g t m = true) (ht : t = n) (_hn : n ≤ 16) (hv : ∀ j : Nat, 0 ≤ vs.getD j 0 ∧ vs.getD j 0 ≤ 112) :
    Calls Try.prog 69 #[gI g, .slice A3 n3 c3, .slice A n c] w fun e w' => e = .returned (.int .i64 (valG ins g vs)) ∧ Below w.heap.size w w' := by
  obtain ⟨x, y, u⟩ := g
  have H := Lib.hid h
  have HV := Lib.hid hv
  have H3 := Lib.hid h3
  clear h3
  have hkd := gateB_kind hg
  simp only at hkd
  subst ht
  clear h hg hv
  rcases hkd with ⟨rfl, y0, y1, rfl⟩ | ⟨rfl, y0, y1, rfl⟩ | ⟨hk3, y0, y1, u0, u1⟩
  · obtain ⟨k, rfl⟩ : ∃ k : Nat, y = k := ⟨y.toNat, by omega⟩
    obtain ⟨a3, v, hA3, hab3, hv3, HV3⟩ := H3.out.intAt (k := k) (by omega)
    subst hA3
    have HE : Hid (v = valG ins (0, (k : Int), 0) vs) := Lib.hid (by rw [HV3.out]; simp [valG])
    have HB0 : Hid (Below w.heap.size w (w.alloc (.cells #[.int .i64 k] 123))) := Lib.hid ((Below.refl _ _).alloc (Nat.le_refl _) _)
    have hv4 := (HB0.out.cell (p := a3.add k) (by rw [add_block]; exact hab3)).trans hv3
    have j0 : (k : Int) < (n3 : Int) := by omega
    have i0 : (0 : Int) ≤ (k : Int) := by omega
    simp only [gI]
    have t0 := fun W => ta_input_input (.int .i64 k) W
    go_enter Try.func69, Try.ntmps69
    go_wp2
    go_ret
    exact ⟨ret_i HE.out, HB0.out⟩
  · have HE : Hid (y = valG ins (1, y, 0) vs) := Lib.hid (by simp [valG])
    simp only [gI]
    have t0 := fun W => ta_const_input (.int .i64 y) W
    have t1 := fun W => ta_const_const (.int .i64 y) W
    go_enter Try.func69, Try.ntmps69
    go_wp2
    go_ret
    exact ⟨ret_i HE.out, (Below.refl _ _).alloc (Nat.le_refl _) _⟩
  · obtain ⟨m1, rfl⟩ : ∃ m : Nat, y = m := ⟨y.toNat, by omega⟩
    obtain ⟨m2, rfl⟩ : ∃ m : Nat, u = m := ⟨u.toNat, by omega⟩
    obtain ⟨a, p, hA, hab, hp, HP⟩ := H.out.intAt (k := m1) (by omega)
    obtain ⟨a', q, hA', _, hq, HQ⟩ := H.out.intAt (k := m2) (by omega)
    subst hA
    injection hA' with hA'; subst hA'
    have p0 := (HV.out m1).1
    have p1 := (HV.out m1).2
    have q0 := (HV.out m2).1
    have q1 := (HV.out m2).2
    rw [← HP.out] at p0 p1
    rw [← HQ.out] at q0 q1
    have j0 : (m1 : Int) < (n : Int) := by omega
    have j1 : (m2 : Int) < (n : Int) := by omega
    have i0 : (0 : Int) ≤ (m1 : Int) := by omega
    have i1 : (0 : Int) ≤ (m2 : Int) := by omega
    rcases hk3 with rfl | rfl | rfl
    · have HE : Hid ((p + q % 113) % 113 = valG ins (2, (m1 : Int), (m2 : Int)) vs) := Lib.hid (by rw [HP.out, HQ.out]; simp only [valG]; first | (simp; done) | (simp; omega))
      have s0 : 0 ≤ q % 113 := by omega
      have s1 : q % 113 ≤ 112 := by omega
      simp only [gI]
      have t0 := fun W => ta_linear_input (.int .i64 m1) (.int .i64 m2) (.int .i64 1) W
      have t1 := fun W => ta_linear_const (.int .i64 m1) (.int .i64 m2) (.int .i64 1) W
      have t2 := fun W => ta_linear_linear (.int .i64 m1) (.int .i64 m2) (.int .i64 1) W
      have HB0 : Hid (Below w.heap.size w (w.alloc (.cells #[.int .i64 m1, .int .i64 m2, .int .i64 1] 129))) := Lib.hid ((Below.refl _ _).alloc (Nat.le_refl _) _)
      have HX : Hid (Bx (w.alloc (.cells #[.int .i64 m1, .int .i64 m2, .int .i64 1] 129)) w.heap.size #[.int .i64 m1, .int .i64 m2, .int .i64 1] 129) := Lib.hid (Bx.new _ _ _)
      have hp2 := (HB0.out.cell (p := a.add m1) (by rw [add_block]; exact hab)).trans hp
      have hq2 := (HB0.out.cell (p := a.add m2) (by rw [add_block]; exact hab)).trans hq
      go_enter Try.func69, Try.ntmps69
      go_wp2
      obtain ⟨wo, hwo⟩ : ∃ wo, Hid (w.alloc (.cells #[.int .i64 m1, .int .i64 m2, .int .i64 1] 129) = wo) := ⟨_, Lib.hid rfl⟩
      rw [hwo.out] at hp2 hq2 HB0 HX ⊢
      clear hwo hp hq
      have g0 : wo.cell? ⟨w.heap.size, 0, none⟩ = some (.int .i64 m1) := HX.out.cell 0
      have g1 : wo.cell? ⟨w.heap.size, 1, none⟩ = some (.int .i64 m2) := HX.out.cell 1
      have g2 : wo.cell? ⟨w.heap.size, 2, none⟩ = some (.int .i64 1) := HX.out.cell 2
      go_quiet ((first
        | (go_at_call 89; exact quiet_drewN (i_times q 1 _ q0 q1 (by omega) (by omega)))
        | (go_at_call 88; exact quiet_drewN (i_plus p _ _ p0 p1 s0 s1))))
      go_wp2
      go_ret
      exact ⟨ret_i HE.out, below_drewN HB0.out _⟩
    · have HE : Hid ((p + q * 112 % 113) % 113 = valG ins (3, (m1 : Int), (m2 : Int)) vs) := Lib.hid (by rw [HP.out, HQ.out]; simp only [valG]; first | (simp; done) | (simp; omega))
      have s0 : 0 ≤ q * 112 % 113 := by omega
      have s1 : q * 112 % 113 ≤ 112 := by omega
      simp only [gI]
      have t0 := fun W => ta_linear_input (.int .i64 m1) (.int .i64 m2) (.int .i64 112) W
      have t1 := fun W => ta_linear_const (.int .i64 m1) (.int .i64 m2) (.int .i64 112) W
      have t2 := fun W => ta_linear_linear (.int .i64 m1) (.int .i64 m2) (.int .i64 112) W
      have HB0 : Hid (Below w.heap.size w (w.alloc (.cells #[.int .i64 m1, .int .i64 m2, .int .i64 112] 129))) := Lib.hid ((Below.refl _ _).alloc (Nat.le_refl _) _)
      have HX : Hid (Bx (w.alloc (.cells #[.int .i64 m1, .int .i64 m2, .int .i64 112] 129)) w.heap.size #[.int .i64 m1, .int .i64 m2, .int .i64 112] 129) := Lib.hid (Bx.new _ _ _)
      have hp2 := (HB0.out.cell (p := a.add m1) (by rw [add_block]; exact hab)).trans hp
      have hq2 := (HB0.out.cell (p := a.add m2) (by rw [add_block]; exact hab)).trans hq
      go_enter Try.func69, Try.ntmps69
      go_wp2
      obtain ⟨wo, hwo⟩ : ∃ wo, Hid (w.alloc (.cells #[.int .i64 m1, .int .i64 m2, .int .i64 112] 129) = wo) := ⟨_, Lib.hid rfl⟩
      rw [hwo.out] at hp2 hq2 HB0 HX ⊢
      clear hwo hp hq
      have g0 : wo.cell? ⟨w.heap.size, 0, none⟩ = some (.int .i64 m1) := HX.out.cell 0
      have g1 : wo.cell? ⟨w.heap.size, 1, none⟩ = some (.int .i64 m2) := HX.out.cell 1
      have g2 : wo.cell? ⟨w.heap.size, 2, none⟩ = some (.int .i64 112) := HX.out.cell 2
      go_quiet ((first
        | (go_at_call 89; exact quiet_drewN (i_times q 112 _ q0 q1 (by omega) (by omega)))
        | (go_at_call 88; exact quiet_drewN (i_plus p _ _ p0 p1 s0 s1))))
      go_wp2
      go_ret
      exact ⟨ret_i HE.out, below_drewN HB0.out _⟩
    · have HE : Hid (p * q % 113 = valG ins (4, (m1 : Int), (m2 : Int)) vs) := Lib.hid (by rw [HP.out, HQ.out]; simp [valG])
      simp only [gI]
      have t0 := fun W => ta_product_input (.int .i64 m1) (.int .i64 m2) W
      have t1 := fun W => ta_product_const (.int .i64 m1) (.int .i64 m2) W
      have t2 := fun W => ta_product_linear (.int .i64 m1) (.int .i64 m2) W
      have t3 := fun W => ta_product_product (.int .i64 m1) (.int .i64 m2) W
      have HB0 : Hid (Below w.heap.size w (w.alloc (.cells #[.int .i64 m1, .int .i64 m2] 131))) := Lib.hid ((Below.refl _ _).alloc (Nat.le_refl _) _)
      have HX : Hid (Bx (w.alloc (.cells #[.int .i64 m1, .int .i64 m2] 131)) w.heap.size #[.int .i64 m1, .int .i64 m2] 131) := Lib.hid (Bx.new _ _ _)
      have hp2 := (HB0.out.cell (p := a.add m1) (by rw [add_block]; exact hab)).trans hp
      have hq2 := (HB0.out.cell (p := a.add m2) (by rw [add_block]; exact hab)).trans hq
      go_enter Try.func69, Try.ntmps69
      go_wp2
      obtain ⟨wo, hwo⟩ : ∃ wo, Hid (w.alloc (.cells #[.int .i64 m1, .int .i64 m2] 131) = wo) := ⟨_, Lib.hid rfl⟩
      rw [hwo.out] at hp2 hq2 HB0 HX ⊢
      clear hwo hp hq
      have g0 : wo.cell? ⟨w.heap.size, 0, none⟩ = some (.int .i64 m1) := HX.out.cell 0
      have g1 : wo.cell? ⟨w.heap.size, 1, none⟩ = some (.int .i64 m2) := HX.out.cell 1
      go_quiet ((first
        | (go_at_call 89; exact quiet_drewN (i_times p q _ p0 p1 q0 q1))))
      go_wp2
      go_ret
      exact ⟨ret_i HE.out, below_drewN HB0.out _⟩
end Go.Proofs.Ytbnobkojkfmccaa

/- Chapter 8 in the program: at the outputs; the greatest of a list; the closure over inputs. -/
namespace Go.Proofs.Ytbnobkojkfmccaa
open Go.RowKit
set_option maxRecDepth 100000

theorem out_step (os v : List Int) {k n : Nat} (hk : k < n) : (outK os v k ++ List.replicate (n - k) 0).set k (v.getD (os.getD k 0).toNat 0) = outK os v (k + 1) ++ List.replicate (n - (k + 1)) 0 := by
  have hl := outK_length os v k
  rw [List.set_append_right _ _ (by omega), hl, Nat.sub_self, show n - k = (n - (k + 1)) + 1 by omega, List.replicate_succ, List.set_cons_zero, outK, List.append_assoc, List.singleton_append]

set_option maxHeartbeats 4000000 in
theorem i_atOuts (A1 : Option Addr) (n1 c1 : Nat) (A2 : Option Addr) (n2 c2 : Nat) (A3 : Option Addr) (n3 c3 : Nat) (z : Int) (d2 vs : List Int) (w : World) (h2 : Rd w w.heap.size 1 A2 n2 (cI d2)) (h3 : Rd w w.heap.size 1 A3 n3 (cI vs)) (hn2 : n2 ≤ 16) (ho : outsK d2 n3 n2 = true) :
    Calls Try.prog 73 #[.agg #[.int .i64 z, .slice A1 n1 c1, .slice A2 n2 c2], .slice A3 n3 c3] w fun e w' => ∃ A c, e = .returned (.slice A n2 c) ∧ OwIntS w' w.heap.size w'.heap.size (.slice A n2 c) (outK d2 vs n2) ∧ Below w.heap.size w w' := by
  have H2 := Lib.hid h2
  have H3 := Lib.hid h3
  have HOK := Lib.hid ho
  clear h2 h3 ho
  have hmk := fun W => run_make1 (P := Try.prog) Try.underlying27 info_int rfl n2 (by omega) (by omega) W
  have HX0 : Hid (Bx ((w.alloc (.cells #[.int .i64 z, .slice A1 n1 c1, .slice A2 n2 c2] 42)).alloc (.cells (Array.replicate n2 (.int .i64 0)) 3)) w.heap.size #[.int .i64 z, .slice A1 n1 c1, .slice A2 n2 c2] 42) := Lib.hid ((Bx.new _ _ _).alloc _)
  have HO0 : Hid (Ow ((w.alloc (.cells #[.int .i64 z, .slice A1 n1 c1, .slice A2 n2 c2] 42)).alloc (.cells (Array.replicate n2 (.int .i64 0)) 3)) (w.heap.size + 1) (w.heap.size + 1 + 1) 3 1 (some ⟨w.heap.size + 1, 0, none⟩) n2 n2 (cI (outK d2 vs 0 ++ List.replicate (n2 - 0) 0))) := Lib.hid (by
    have := Ow.zeros (w.alloc (.cells #[.int .i64 z, .slice A1 n1 c1, .slice A2 n2 c2] 42)) (.int .i64 0) 3 n2
    rw [World.size_alloc, cI_zeros] at this; exact this)
  have HB0 : Hid (Below w.heap.size w ((w.alloc (.cells #[.int .i64 z, .slice A1 n1 c1, .slice A2 n2 c2] 42)).alloc (.cells (Array.replicate n2 (.int .i64 0)) 3))) := Lib.hid (((Below.refl _ _).alloc (Nat.le_refl _) _).alloc (by simp) _)
  have HS0 : Hid (w.heap.size + 1 < ((w.alloc (.cells #[.int .i64 z, .slice A1 n1 c1, .slice A2 n2 c2] 42)).alloc (.cells (Array.replicate n2 (.int .i64 0)) 3)).heap.size) := Lib.hid (by simp)
  have b20 : ((w.alloc (.cells #[.int .i64 z, .slice A1 n1 c1, .slice A2 n2 c2] 42)).alloc (.cells (Array.replicate n2 (.int .i64 0)) 3)).cell? ⟨w.heap.size, 2, none⟩ = some (.slice A2 n2 c2) := HX0.out.cell 2
  go_enter Try.func73, Try.ntmps73
  go_wp2
  go_loopw [15] (fun i wr => ∃ k : Nat, k ≤ n2 ∧ i = .int .i64 k ∧ Hid (Ow wr (w.heap.size + 1) (w.heap.size + 1 + 1) 3 1 (some ⟨w.heap.size + 1, 0, none⟩) n2 n2 (cI (outK d2 vs k ++ List.replicate (n2 - k) 0))) ∧ Hid (Below w.heap.size w wr) ∧ Hid (w.heap.size + 1 < wr.heap.size)) (fun i _ => n2 - (intOf i).toNat)
  case atStart => exact ⟨0, Nat.zero_le _, rfl, HO0, HB0, HS0⟩
  case round =>
    clear HX0 HO0 HB0 HS0 b20
    obtain ⟨k, hk, rfl, HO, HB, HS⟩ := hrel
    by_cases hlt : k < n2
    · obtain ⟨a, x, hA, hab, hx0, HP⟩ := H2.out.intAt hlt
      have hx := (HB.out.cell (p := a.add k) (by rw [add_block]; exact hab)).trans hx0
      obtain ⟨x0, x1⟩ := outsK_at HOK.out hlt
      rw [← HP.out] at x0 x1
      obtain ⟨m, rfl⟩ : ∃ m : Nat, x = m := ⟨x.toNat, by omega⟩
      obtain ⟨a3, v, hA3, hab3, hv3, HV⟩ := H3.out.intAt (k := m) (by omega)
      have hv := (HB.out.cell (p := a3.add m) (by rw [add_block]; exact hab3)).trans hv3
      have i0 : (0 : Int) ≤ (k : Int) := by omega
      have i1 : (k : Int) < (n2 : Int) := by omega
      have i2 : (m : Int) < (n3 : Int) := by omega
      have HE : Hid (v = vs.getD (d2.getD k 0).toNat 0) := Lib.hid (by rw [← HP.out, HV.out]; rfl)
      obtain ⟨v0, hv0⟩ : ∃ v, wr.cell? ⟨w.heap.size + 1, k, none⟩ = some v := ⟨_, HO.out.cellAt (List.getElem?_eq_getElem (by have := HO.out.1; omega))⟩
      have hf := HO.out.free (by omega) k
      have HO2 := Lib.hid (HO.out.set k (.int .i64 v))
      have HET : Hid ((outK d2 vs k ++ List.replicate (n2 - k) 0).set k v = outK d2 vs (k + 1) ++ List.replicate (n2 - (k + 1)) 0) := Lib.hid (by rw [HE.out, out_step d2 vs hlt])
      rw [cI_set, HET.out] at HO2
      have HB2 := Lib.hid (HB.out.setCell (p := ⟨w.heap.size + 1, k, none⟩) (by simp) (.int .i64 v))
      have HS2 : Hid (w.heap.size + 1 < (wr.setCell ⟨w.heap.size + 1, k, none⟩ (.int .i64 v)).heap.size) := Lib.hid (by rw [World.size_setCell]; exact HS.out)
      subst hA; subst hA3
      clear hx0 hv3 HO HB HS HE HET
      go_wp2
      go_roundw
      case rel => exact ⟨k + 1, by omega, by go_num, HO2, HB2, HS2⟩
      case measure => simp [intOf] <;> omega
    · have hkn : k = n2 := by omega
      have HOF : Hid (OwIntS wr w.heap.size wr.heap.size (.slice (some ⟨w.heap.size + 1, 0, none⟩) n2 n2) (outK d2 vs n2)) := Lib.hid (by
        have := HO.out
        rw [hkn, Nat.sub_self, List.replicate_zero, List.append_nil] at this
        exact ⟨by rw [outK_length]; omega, _, _, _, rfl, this.widen (by omega) HS.out⟩)
      clear HO hkn
      go_wp2
      go_ret
      exact ⟨_, _, rfl, HOF.out, HB.out⟩

set_option maxHeartbeats 1000000 in
theorem i_values1 (g : Int × Int × Int) (m t : Int) (A3 : Option Addr) (n3 c3 : Nat) (ins : List Int) (A : Option Addr) (n c b : Nat) (vs : List Int) (w : World) (h : Rd w w.heap.size 1 A n (cI vs)) (h3 : Rd w w.heap.size 1 A3 n3 (cI ins)) (hm : m = n3) (hg : gateB g t m = true) (ht : t = n) (hn : n ≤ 16) (hv : ∀ j : Nat, 0 ≤ vs.getD j 0 ∧ vs.getD j 0 ≤ 112) (hb : w.cell? ⟨b, 0, none⟩ = some (.slice A3 n3 c3)) :
    Calls Try.prog 68 #[gI g, .slice A n c, .pointer (some ⟨b, 0, none⟩)] w fun e w' => e = .returned (.int .i64 (valG ins g vs)) ∧ Below w.heap.size w w' := by
  have HC := Lib.hid (i_valueOf g m t A3 n3 c3 ins A n c vs w h h3 hm hg ht hn hv)
  generalize gI g = gv at HC ⊢
  clear h h3 hm hg ht hv
  go_enter Try.func68, Try.ntmps68
  go_wp2_with fail
  refine HC.out.mono ?_
  rintro e w2 ⟨rfl, hbl⟩
  go_wp2
  go_ret
  exact ⟨rfl, hbl⟩
end Go.Proofs.Ytbnobkojkfmccaa

/- Chapter 8 in the program, as the laws meet it. -/
namespace Go.Proofs.Ytbnobkojkfmccaa
open Go.RowKit
set_option maxRecDepth 100000

theorem eg_values1 (args : Array Value) (W : World) : (callFunc 68 args).run Try.prog W = .ok (.enter 68 args) W := by kernel_rfl
theorem OwGI.rdv {w : World} {lo hi : Nat} {v : Value} {d : List (Int × Int × Int)} (h : OwGI w lo hi v d) : ∃ A n c, v = .slice A n c ∧ n = d.length ∧ Rd w hi 1 A n (d.map gI) := by
  obtain ⟨A, n, c, rfl, r⟩ := h
  exact ⟨A, n, c, rfl, by have := r.1; rw [List.length_map] at this; omega, r.rd⟩
/-- a box of three cells and one of one cell, over a call that only makes -/
theorem upd31 {w0 W w' : World} {b b' e e' : Nat} {x y z u : Value} (hb : Below b w0 W) (hx : Bx W b #[x, y, z] e) (hy : Bx W b' #[u] e') (h : Below W.heap.size W w') :
    Below b w0 w' ∧ Bx w' b #[x, y, z] e ∧ Bx w' b' #[u] e' ∧ w'.cell? ⟨b, 0, none⟩ = some x ∧ w'.cell? ⟨b, 1, none⟩ = some y ∧ w'.cell? ⟨b, 2, none⟩ = some z ∧ w'.cell? ⟨b', 0, none⟩ = some u :=
  have hx2 := hx.below h hx.lt
  have hy2 := hy.below h hy.lt
  ⟨hb.trans (h.mono (Nat.le_of_lt hx.lt)), hx2, hy2, hx2.cell 0, hx2.cell 1, hx2.cell 2, hy2.cell 0⟩

set_option maxHeartbeats 8000000 in
theorem X_i_CircuitValues (v v' : Value) (d : Int × List (Int × Int × Int) × List Int) (ins : List Int) (w : World) (h : RdCircuit w w.heap.size v d) (h' : RdIntS w w.heap.size v' ins) (hs : szCircuit d ≤ 1048576) (hs' : szIntS ins ≤ 1048576) :
    Calls Try.prog 34 #[v, v'] w fun e w' => ∃ g, e = .returned (.tuple #[g, .bool (fitsB d ins)]) ∧ OwIntS w' w.heap.size w'.heap.size g (R_CircuitValues_0 d ins) ∧ Below w.heap.size w w' := by
  obtain ⟨A1, n1, c1, A2, n2, c2, rfl, h1, h2⟩ := h
  obtain ⟨A3, n3, c3, rfl, _, h3⟩ := h'
  have m1 : n1 ≤ 1048576 := by have := szC1 hs; have := h1.n.2; omega
  have m2 : n2 ≤ 1048576 := by have := szC2 hs; have := h2.n.2; omega
  have m3 : n3 ≤ 1048576 := by have := h3.len; unfold szIntS at hs'; omega
  have l1 := Lib.hid h1.n.2
  have l3 := Lib.hid h3.len
  have H1 := Lib.hid h1.n.1
  have H2 := Lib.hid h2.n.1
  have H3 := Lib.hid h3
  clear h1 h2 h3 hs hs'
  obtain ⟨z, d1, d2⟩ := d
  obtain ⟨W0, hW0⟩ : ∃ W, Hid ((w.alloc (.cells #[.int .i64 z, .slice A1 n1 c1, .slice A2 n2 c2] 42)).alloc (.cells #[.slice A3 n3 c3] 27) = W) := ⟨_, Lib.hid rfl⟩
  have HX0 : Hid (Bx W0 w.heap.size #[.int .i64 z, .slice A1 n1 c1, .slice A2 n2 c2] 42) := Lib.hid (by rw [← hW0.out]; exact (Bx.new _ _ _).alloc _)
  have HY0 : Hid (Bx W0 (w.heap.size + 1) #[.slice A3 n3 c3] 27) := Lib.hid (by rw [← hW0.out]; have := Bx.new (w.alloc (.cells #[.int .i64 z, .slice A1 n1 c1, .slice A2 n2 c2] 42)) #[.slice A3 n3 c3] 27; rw [World.size_alloc] at this; exact this)
  have HB0 : Hid (Below w.heap.size w W0) := Lib.hid (by rw [← hW0.out]; exact ((Below.refl _ _).alloc (Nat.le_refl _) _).alloc (by simp) _)
  have no : ∀ {w' : World}, fitsB (z, d1, d2) ins = false → Below w.heap.size w w' → ∃ g, Ending.returned (.tuple #[.slice none 0 0, .bool false]) = .returned (.tuple #[g, .bool (fitsB (z, d1, d2) ins)]) ∧ OwIntS w' w.heap.size w'.heap.size g (R_CircuitValues_0 (z, d1, d2) ins) ∧ Below w.heap.size w w' :=
    fun h hb => ⟨.slice none 0 0, by rw [h], by rw [R_CircuitValues_0, h]; exact OwIntS.nil_ _ _ _, hb⟩
  go_enter Try.func34, Try.ntmps34
  go_wp2_with fail
  rw [hW0.out]
  clear hW0
  refine (i_gatesOf A1 n1 c1 A2 n2 c2 z d1 d2 _ ((H1.out.below HB0.out).more HB0.out.size) ((H2.out.below HB0.out).more HB0.out.size) m1 m2).mono ?_
  rintro e w2 ⟨gv, rfl, hno, hyes, hb⟩
  have HX1 := Lib.hid (HX0.out.below hb HX0.out.lt)
  have HY1 := Lib.hid (HY0.out.below hb HY0.out.lt)
  have HB1 : Hid (Below w.heap.size w w2) := Lib.hid (HB0.out.trans (hb.mono HB0.out.size))
  have hz0 := HY1.out.lt
  clear hb
  cases eb : circB (z, d1, d2)
  · have HF : Hid (fitsB (z, d1, d2) ins = false) := Lib.hid (by simp [fitsB, eb])
    clear hno hyes
    go_wp2
    go_ret2
    exact no HF.out HB1.out
  have HO1 := Lib.hid ((hyes.out eb).rdv)
  have HEB := Lib.hid eb
  clear hno hyes eb
  have b0 : w2.cell? ⟨w.heap.size, 0, none⟩ = some (.int .i64 z) := HX1.out.cell 0
  have b1 : w2.cell? ⟨w.heap.size, 1, none⟩ = some (.slice A1 n1 c1) := HX1.out.cell 1
  have b2 : w2.cell? ⟨w.heap.size, 2, none⟩ = some (.slice A2 n2 c2) := HX1.out.cell 2
  have b3 : w2.cell? ⟨w.heap.size + 1, 0, none⟩ = some (.slice A3 n3 c3) := HY1.out.cell 0
  go_wp2_with fail
  refine (i_insFit A1 n1 c1 A2 n2 c2 A3 n3 c3 z ins _ ((H3.out.below HB1.out).more HB1.out.size) m3).mono ?_
  rintro e w3 ⟨rfl, hb⟩
  have HX2 := Lib.hid (HX1.out.below hb HX1.out.lt)
  have HY2 := Lib.hid (HY1.out.below hb HY1.out.lt)
  have HB2 : Hid (Below w.heap.size w w3) := Lib.hid (HB1.out.trans (hb.mono HB1.out.size))
  obtain ⟨Ag, ng, cg, rfl, hlg, hrg⟩ := HO1.out
  have HRG := Lib.hid ((hrg.below hb).more hb.size)
  have HLG := Lib.hid hlg
  have hz1 := HY2.out.lt
  clear hb b0 b1 b2 b3 HX1 HY1 HX0 HY0 HO1 hlg hrg
  cases ei : (decide ((ins.length : Int) = z) && numsB ins)
  · have HF : Hid (fitsB (z, d1, d2) ins = false) := Lib.hid (by simp only [fitsB, ei, Bool.and_false])
    go_wp2
    go_ret2
    exact no HF.out HB2.out
  have HF : Hid (fitsB (z, d1, d2) ins = true) := Lib.hid (by simp only [fitsB, ei, HEB.out, Bool.and_true])
  obtain ⟨f1, f2, f3⟩ := fits_iff HF.out
  obtain ⟨e0, e1, e2, e3, e4⟩ := circB_iff f1
  simp only at e0 e1 e2 e3 e4 f2
  have q1 : ng ≤ 16 := by have := HLG.out; omega
  have HG : Hid (gatesK d1 z ng = true) := Lib.hid (by rw [HLG.out]; exact e3)
  have HI := Lib.hid f3
  have HZ : Hid (z = n3) := Lib.hid (by have := l3.out; omega)
  have HR : Hid (R_CircuitValues_0 (z, d1, d2) ins = tellK (valG ins) d1 ng) := Lib.hid (by simp [R_CircuitValues_0, HF.out, HLG.out])
  have b3 : w3.cell? ⟨w.heap.size + 1, 0, none⟩ = some (.slice A3 n3 c3) := HY2.out.cell 0
  clear e0 e1 e2 e3 e4 f1 f2 f3 ei
  go_wp2_with fail
  refine (i_gateByGate 68 #[.pointer (some ⟨w.heap.size + 1, 0, none⟩)] (valG ins) Ag ng cg d1 w3 HRG.out q1 eg_values1 ?_).mono ?_
  · intro W k A c hbw hk hr
    exact i_values1 (gt d1 k) z k A3 n3 c3 ins A k c (w.heap.size + 1) (tellK (valG ins) d1 k) W hr ((H3.out.below (HB2.out.trans (hbw.mono HB2.out.size))).more (Nat.le_trans HB2.out.size hbw.size)) HZ.out (gatesK_at HG.out hk) rfl (by omega) (val_bd HG.out HI.out k (by omega)) ((hbw.cell (p := ⟨w.heap.size + 1, 0, none⟩) HY2.out.lt).trans (HY2.out.cell 0))
  rintro e w4 ⟨A, c, rfl, ho, hb⟩
  have HO := Lib.hid (ho.widen (lo' := w.heap.size) HB2.out.size (Nat.le_refl _))
  have HB3 : Hid (Below w.heap.size w w4) := Lib.hid (HB2.out.trans (hb.mono HB2.out.size))
  clear ho hb b3
  go_wp2
  go_ret2
  exact ⟨_, ret_vb HF.out.symm, by rw [HR.out]; exact HO.out, HB3.out⟩

set_option maxHeartbeats 8000000 in
theorem X_i_CircuitRun (v v' : Value) (d : Int × List (Int × Int × Int) × List Int) (ins : List Int) (w : World) (h : RdCircuit w w.heap.size v d) (h' : RdIntS w w.heap.size v' ins) (hs : szCircuit d ≤ 1048576) (hs' : szIntS ins ≤ 1048576) :
    Calls Try.prog 38 #[v, v'] w fun e w' => ∃ g, e = .returned (.tuple #[g, .bool (fitsB d ins)]) ∧ OwIntS w' w.heap.size w'.heap.size g (R_CircuitRun_0 d ins) ∧ Below w.heap.size w w' := by
  obtain ⟨A1, n1, c1, A2, n2, c2, rfl, h1, h2⟩ := h
  have l1 := Lib.hid h1.n.2
  have l2 := Lib.hid h2.n.2
  have H1 := Lib.hid h1
  have H2 := Lib.hid h2
  obtain ⟨A3, n3, c3, rfl, h30, h3⟩ := h'
  have H3 := Lib.hid h3
  clear h1 h2 h3
  obtain ⟨z, d1, d2⟩ := d
  have HX0 : Hid (Bx (w.alloc (.cells #[.int .i64 z, .slice A1 n1 c1, .slice A2 n2 c2] 42)) w.heap.size #[.int .i64 z, .slice A1 n1 c1, .slice A2 n2 c2] 42) := Lib.hid (Bx.new _ _ _)
  have HB0 : Hid (Below w.heap.size w (w.alloc (.cells #[.int .i64 z, .slice A1 n1 c1, .slice A2 n2 c2] 42))) := Lib.hid ((Below.refl _ _).alloc (Nat.le_refl _) _)
  go_enter Try.func38, Try.ntmps38
  go_wp2_with fail
  refine (X_i_CircuitValues _ _ (z, d1, d2) ins _ ⟨A1, n1, c1, A2, n2, c2, rfl, (H1.out.below HB0.out).more HB0.out.size, (H2.out.below HB0.out).more HB0.out.size⟩ ⟨A3, n3, c3, rfl, h30, (H3.out.below HB0.out).more HB0.out.size⟩ hs hs').mono ?_
  rintro e w2 ⟨gv, rfl, ho, hb⟩
  have HX1 := Lib.hid (HX0.out.below hb HX0.out.lt)
  have HB1 : Hid (Below w.heap.size w w2) := Lib.hid (HB0.out.trans (hb.mono HB0.out.size))
  have HO1 := Lib.hid ho
  obtain ⟨A, n, c, rfl, hn, _, _⟩ := HO1.out.open
  have HN := Lib.hid hn
  have b0 : w2.cell? ⟨w.heap.size, 0, none⟩ = some (.int .i64 z) := HX1.out.cell 0
  have b1 : w2.cell? ⟨w.heap.size, 1, none⟩ = some (.slice A1 n1 c1) := HX1.out.cell 1
  have b2 : w2.cell? ⟨w.heap.size, 2, none⟩ = some (.slice A2 n2 c2) := HX1.out.cell 2
  clear hb ho hn HX0 HB0
  cases ef : fitsB (z, d1, d2) ins
  · have HF := Lib.hid ef
    go_wp2
    go_ret2
    exact ⟨_, ret_vb HF.out.symm, by rw [R_CircuitRun_0, HF.out]; exact OwIntS.nil_ _ _ _, HB1.out⟩
  have HF := Lib.hid ef
  obtain ⟨f1, f2, f3⟩ := fits_iff ef
  obtain ⟨e0, e1, e2, e3, e4⟩ := circB_iff f1
  simp only at e0 e1 e2 e3 e4 f2
  have q2 : n2 ≤ 16 := by have := l2.out; omega
  have hnn : n = n1 := by have h1 := HN.out; have h2 := l1.out; simp only [R_CircuitValues_0, ef, if_true, tellK_length] at h1; omega
  subst hnn
  have HVS : Hid (R_CircuitValues_0 (z, d1, d2) ins = tellK (valG ins) d1 n) := Lib.hid (by simp [R_CircuitValues_0, ef, l1.out])
  have HR : Hid (R_CircuitRun_0 (z, d1, d2) ins = outK d2 (tellK (valG ins) d1 n) n2) := Lib.hid (by simp [R_CircuitRun_0, ef, l1.out, l2.out])
  have G4 : Hid (outsK d2 n n2 = true) := Lib.hid (by have e1 := l1.out; have e2 := l2.out; rw [e1, e2]; exact e4)
  have HRD : Hid (Rd w2 w2.heap.size 1 A n (cI (tellK (valG ins) d1 n))) := Lib.hid (by have := HO1.out.rdw; rw [HVS.out] at this; exact this)
  clear e0 e1 e2 e3 e4 f1 f2 f3 ef HN
  go_wp2_with fail
  refine (i_atOuts A1 n c1 A2 n2 c2 A n c z d2 (tellK (valG ins) d1 n) _ ((H2.out.n.1.below HB1.out).more HB1.out.size) HRD.out q2 G4.out).mono ?_
  rintro e w3 ⟨A4, c4, rfl, ho, hb⟩
  have HO := Lib.hid (ho.widen (lo' := w.heap.size) HB1.out.size (Nat.le_refl _))
  have HB2 : Hid (Below w.heap.size w w3) := Lib.hid (HB1.out.trans (hb.mono HB1.out.size))
  clear ho hb b0 b1 b2
  go_wp2
  go_ret2
  exact ⟨_, ret_vb HF.out.symm, by rw [HR.out]; exact HO.out, HB2.out⟩

end Go.Proofs.Ytbnobkojkfmccaa

/- Lists of lists of points: what reads, what is owned; the laws' helpers over them. Made by tools/genss.py. -/
namespace Go.Proofs.Ytbnobkojkfmccaa
open Go.RowKit
set_option maxRecDepth 100000

/-- the sum of the lengths of the first k rows -/
def lensKP (d : List (List (Int × Int))) : Nat → Nat
  | 0 => 0
  | k + 1 => lensKP d k + (d.getD k []).length
theorem lensKP_mono (d : List (List (Int × Int))) {i j : Nat} (h : i ≤ j) : lensKP d i ≤ lensKP d j := by
  induction j with
  | zero => rw [show i = 0 by omega]; exact Nat.le_refl _
  | succ j ih =>
    by_cases hc : i = j + 1
    · rw [hc]; exact Nat.le_refl _
    · have := ih (by omega); rw [lensKP]; omega
theorem lensKP_row (d : List (List (Int × Int))) {k n : Nat} (h : k < n) : (d.getD k []).length ≤ lensKP d n := by
  have := lensKP_mono d (show k + 1 ≤ n by omega); rw [lensKP] at this; omega

/-- (A, n) reads as the rows d, below block hi -/
def RdRP (w : World) (hi : Nat) (A : Option Addr) (n : Nat) (vs : List Value) (d : List (List (Int × Int))) : Prop :=
  Rd w hi 1 A n vs ∧ d.length = n ∧ ∀ i, i < n → RdPointS w hi (vs.getD i undef) (d.getD i [])
/-- (A, n, c) is a row of slices of its own, each of which owns its ints; no two share a block -/
def OwRP (w : World) (lo hi : Nat) (A : Option Addr) (n c : Nat) (vs : List Value) (d : List (List (Int × Int))) : Prop :=
  Ow w lo hi 50 1 A n c vs ∧ d.length = n ∧ (∀ i, i < n → OwPointS w lo hi (vs.getD i undef) (d.getD i [])) ∧
  ∀ i j, i < n → j < n → i ≠ j → d.getD i [] ≠ [] → d.getD j [] ≠ [] → (vs.getD i undef).ownBlock ≠ (vs.getD j undef).ownBlock

section
variable {w w' : World} {lo hi lo' hi' n c k g : Nat} {A : Option Addr} {vs : List Value} {d : List (List (Int × Int))}
theorem RdRP.row (h : RdRP w hi A n vs d) (hk : k < n) : ∃ (a : Addr) (Ai : Option Addr) (ni ci : Nat), A = some a ∧ a.block < hi ∧ w.cell? (a.add k) = some (.slice Ai ni ci) ∧ RdPointS w hi (.slice Ai ni ci) (d.getD k []) ∧ ni ≤ 9223372036854775807 ∧ (d.getD k []).length = ni := by
  obtain ⟨h1, h2, h3⟩ := h
  obtain ⟨a, e, hb, hc⟩ := h1.2 (by omega)
  have hl := h1.1
  have hr := h3 k hk
  obtain ⟨Ai, ni, ci, e2, hn, r⟩ := h3 k hk
  refine ⟨a, Ai, ni, ci, e, hb, ?_, ?_, hn, r.plen⟩
  · rw [← e2]; exact hc k _ (getD_get (by omega))
  · rw [← e2]; exact hr
theorem RdRP.keep (h : RdRP w hi A n vs d) (hb : Below hi w w') : RdRP w' hi A n vs d := ⟨h.1.below hb, h.2.1, fun i hi' => (h.2.2 i hi').below hb⟩
theorem RdRP.more (h : RdRP w hi A n vs d) (hh : hi ≤ hi') : RdRP w hi' A n vs d := ⟨h.1.more hh, h.2.1, fun i hi' => (h.2.2 i hi').more hh⟩
theorem OwRP.rd (h : OwRP w lo hi A n c vs d) : RdRP w hi A n vs d := ⟨h.1.rd, h.2.1, fun i hi' => (h.2.2.1 i hi').rd⟩
theorem OwRP.below {B : Nat} (h : OwRP w lo hi A n c vs d) (hb : Below B w w') (hz : hi ≤ B) : OwRP w' lo hi A n c vs d :=
  ⟨h.1.below hb hz, h.2.1, fun i hi' => (h.2.2.1 i hi').below hb hz, h.2.2.2⟩
theorem OwRP.kept {mid : Nat} (h : OwRP w lo hi A n c vs d) (hk : Kept lo' mid w w') (hz : hi ≤ w.heap.size) (hd : mid ≤ lo ∨ hi ≤ lo') : OwRP w' lo hi A n c vs d :=
  ⟨h.1.kept hk hz hd, h.2.1, fun i hi' => (h.2.2.1 i hi').kept hk hz hd, h.2.2.2⟩
theorem OwRP.widen (h : OwRP w lo hi A n c vs d) (h1 : lo' ≤ lo) (h2 : hi ≤ hi') : OwRP w lo' hi' A n c vs d :=
  ⟨h.1.widen h1 h2, h.2.1, fun i hi' => (h.2.2.1 i hi').widen h1 h2, h.2.2.2⟩
theorem OwPointS.kept1 {v : Value} {x : List (Int × Int)} (h : OwPointS w lo hi v x) (hk : Kept g (g + 1) w w') (hz : hi ≤ w.heap.size) (hne : x ≠ [] → v.ownBlock ≠ some g) : OwPointS w' lo hi v x := by
  obtain ⟨hs, A, n, c, rfl, r⟩ := h
  refine ⟨hs, A, n, c, rfl, r.kept1 hk hz fun h0 e => ?_⟩
  have hl := r.plen
  exact hne (by intro e; rw [e] at hl; simp at hl; omega) (by rw [e]; rfl)
/-- what is not empty lies in one block -/
theorem OwPointS.tight {v : Value} {x : List (Int × Int)} (h : OwPointS w lo hi v x) (hx : x ≠ []) : ∃ g, lo ≤ g ∧ g < hi ∧ v.ownBlock = some g ∧ OwPointS w g (g + 1) v x ∧ ∃ cs, w.heap[g]? = some (.cells cs 61 (0, 0)) := by
  obtain ⟨hs, A, n, c, rfl, r⟩ := h
  have hl := r.plen
  have hn : 0 < n := by rcases Nat.eq_zero_or_pos n with h0 | h0; · exact absurd (List.eq_nil_of_length_eq_zero (by omega)) hx
                        · exact h0
  obtain ⟨g, cs, rfl, a, b, hb, ht⟩ := r.lt hn
  exact ⟨g, a, b, rfl, ⟨hs, _, _, _, rfl, r.1, r.2.1, .inr ⟨g, cs, rfl, Nat.le_refl _, by omega, hb, ht⟩⟩, cs, hb⟩
/-- an empty one lies anywhere -/
theorem OwPointS.empty {v : Value} (h : OwPointS w lo hi v []) (lo' hi' : Nat) (w' : World) : OwPointS w' lo' hi' v [] := by
  obtain ⟨hs, A, n, c, rfl, r⟩ := h
  exact ⟨hs, A, n, c, rfl, by have := r.plen; simp [cP] at this ⊢; omega, r.2.1, .inl (by have := r.plen.symm; simpa using this)⟩
theorem OwRP.row (h : OwRP w lo hi A n c vs d) (hk : k < n) : ∃ (g : Nat) (Ai : Option Addr) (ni ci : Nat), A = some ⟨g, 0, none⟩ ∧ lo ≤ g ∧ g < hi ∧ w.cell? ⟨g, k, none⟩ = some (.slice Ai ni ci) ∧ vs.getD k undef = .slice Ai ni ci ∧ OwPointS w lo hi (.slice Ai ni ci) (d.getD k []) ∧ ni = (d.getD k []).length ∧ ni ≤ ci := by
  obtain ⟨h1, h2, h3, _⟩ := h
  obtain ⟨g, cs, rfl, a, b, hb, ht⟩ := h1.lt (by omega)
  have hl := h1.1
  have hr := h3 k hk
  obtain ⟨_, Ai, ni, ci, e2, r⟩ := h3 k hk
  refine ⟨g, Ai, ni, ci, rfl, a, b, ?_, e2, ?_, r.plen.symm, r.2.1⟩
  · rw [← e2]; exact h1.cellAt (getD_get (by omega))
  · rw [← e2]; exact hr
/-- one row turned in its block -/
theorem OwRP.turn (h : OwRP w lo hi A n c vs d) (hk : k < n) {x : List (Int × Int)} (hkp : Kept g (g + 1) w w') (hz : hi ≤ w.heap.size) (hx : d.getD k [] ≠ []) (hg : (vs.getD k undef).ownBlock = some g) (ho : OwPointS w' lo hi (vs.getD k undef) x) :
    OwRP w' lo hi A n c vs (d.set k x) := by
  obtain ⟨h1, h2, h3, h4⟩ := h
  have get : ∀ i, (d.set k x).getD i [] = if k = i then x else d.getD i [] := by
    intro i
    simp only [List.getD_eq_getElem?_getD, List.getElem?_set]
    by_cases hc : k = i
    · subst hc; rw [if_pos rfl, if_pos rfl, if_pos (by omega)]; rfl
    · rw [if_neg hc, if_neg hc]
  refine ⟨h1.kept1 hkp hz fun hn e => ?_, by rw [List.length_set]; exact h2, fun i hi' => ?_, fun i j hi' hj' hij hxi hxj => ?_⟩
  · obtain ⟨g', cs', rfl, _, _, hb', _⟩ := h1.lt hn
    injection e with e; injection e with e; subst e
    obtain ⟨g2, _, _, hb2, _, cs, hb⟩ := (h3 k hk).tight hx
    rw [hb2] at hg; injection hg with hg; subst hg
    rw [hb] at hb'; injection hb' with hb'; injection hb' with _ ht
    exact absurd ht (by decide)
  · rw [get i]
    by_cases hc : k = i
    · subst hc; rw [if_pos rfl]; exact ho
    · rw [if_neg hc]
      refine (h3 i hi').kept1 hkp hz fun hne => ?_
      rw [← hg]; exact h4 i k hi' hk (fun e => hc e.symm) hne hx
  · refine h4 i j hi' hj' hij ?_ ?_
    · rw [get i] at hxi
      by_cases hc : k = i
      · subst hc; exact hx
      · rwa [if_neg hc] at hxi
    · rw [get j] at hxj
      by_cases hc : k = j
      · subst hc; exact hx
      · rwa [if_neg hc] at hxj
end

theorem infoP_row : (Try.prog.info? 50).map (fun i => (i.zero, i.size, i.bytes)) = some (some (.slice none 0 0), 1, 24) := by kernel_rfl

/-- the first k rows copied, the others still nil -/
def copyRP (d : List (List (Int × Int))) (n k : Nat) : List (List (Int × Int)) := d.take k ++ List.replicate (n - k) []
theorem copyRP_get (d : List (List (Int × Int))) (n k i : Nat) (h : d.length = n) (hk : k ≤ n) : (copyRP d n k).getD i [] = if i < k then d.getD i [] else [] := by
  unfold copyRP
  simp only [List.getD_eq_getElem?_getD, List.getElem?_append, List.length_take, List.getElem?_take, List.getElem?_replicate]
  by_cases h1 : i < k
  · rw [if_pos (by omega), if_pos h1, if_pos h1]
  · rw [if_neg (by omega), if_neg h1]
    by_cases h2 : i - min k d.length < n - k
    · rw [if_pos h2]; rfl
    · rw [if_neg h2]; rfl
theorem copyRP_all (d : List (List (Int × Int))) (n : Nat) (h : d.length = n) : copyRP d n n = d := by
  unfold copyRP; rw [List.take_of_length_le (by omega), Nat.sub_self]; simp

/-- rows marked one behind the other -/
def mkRowP (K : Int) (d : List (List (Int × Int))) (i : Nat) : List (Int × Int) := iotaP (K + 2 * lensKP d i) (d.getD i []).length
def mkPointSS (K : Int) (d : List (List (Int × Int))) : List (List (Int × Int)) := (List.range d.length).map (mkRowP K d)
def markRP (K : Int) (d : List (List (Int × Int))) (k : Nat) : List (List (Int × Int)) := (List.range d.length).map fun i => if i < k then mkRowP K d i else d.getD i []
theorem markRP_get (K : Int) (d : List (List (Int × Int))) (k i : Nat) (h : i < d.length) : (markRP K d k).getD i [] = if i < k then mkRowP K d i else d.getD i [] := by simp [markRP, h]
theorem mkPointSS_get (K : Int) (d : List (List (Int × Int))) (i : Nat) (h : i < d.length) : (mkPointSS K d).getD i [] = mkRowP K d i := by simp [mkPointSS, h]
theorem mkRowP_len (K : Int) (d : List (List (Int × Int))) (i : Nat) : (mkRowP K d i).length = (d.getD i []).length := by rw [mkRowP, iotaP_length]
theorem markRP_length (K : Int) (d : List (List (Int × Int))) (k : Nat) : (markRP K d k).length = d.length := by simp [markRP]
theorem mkPointSS_length (K : Int) (d : List (List (Int × Int))) : (mkPointSS K d).length = d.length := by simp [mkPointSS]
theorem ext_rowsP {p q : List (List (Int × Int))} (hl : p.length = q.length) (h : ∀ j, j < p.length → p.getD j [] = q.getD j []) : p = q := by
  apply List.ext_getElem hl
  intro j h1 h2
  have := h j h1
  simpa [h1, h2] using this
theorem markRP_0 (K : Int) (d : List (List (Int × Int))) : markRP K d 0 = d := ext_rowsP (markRP_length _ _ _) fun j hj => by rw [markRP_length] at hj; rw [markRP_get _ _ _ _ hj, if_neg (by omega)]
theorem markRP_n (K : Int) (d : List (List (Int × Int))) : markRP K d d.length = mkPointSS K d := ext_rowsP (by rw [markRP_length, mkPointSS_length]) fun j hj => by rw [markRP_length] at hj; rw [markRP_get _ _ _ _ hj, if_pos hj, mkPointSS_get _ _ _ hj]
theorem markRP_succ (K : Int) (d : List (List (Int × Int))) (k : Nat) (_hk : k < d.length) : (markRP K d k).set k (mkRowP K d k) = markRP K d (k + 1) := by
  refine ext_rowsP (by simp [markRP_length]) fun j hj => ?_
  rw [List.length_set, markRP_length] at hj
  rw [markRP_get _ _ _ _ hj]
  simp only [List.getD_eq_getElem?_getD, List.getElem?_set, markRP_length]
  by_cases hc : k = j
  · subst hc; rw [if_pos rfl, if_pos hj, if_pos (by omega)]; rfl
  · rw [if_neg hc, ← List.getD_eq_getElem?_getD, markRP_get _ _ _ _ hj]
    by_cases h2 : j < k
    · rw [if_pos h2, if_pos (by omega)]
    · rw [if_neg h2, if_neg (by omega)]; rfl

/-- the size: the rows and all that they hold -/
def szPointSS (d : List (List (Int × Int))) : Nat := d.length + lensKP d d.length

/-! as whole values -/
def RdPointSS (w : World) (hi : Nat) (v : Value) (d : List (List (Int × Int))) : Prop := ∃ A n c vs, v = .slice A n c ∧ n ≤ 9223372036854775807 ∧ RdRP w hi A n vs d
def OwPointSS (w : World) (lo hi : Nat) (v : Value) (d : List (List (Int × Int))) : Prop := szPointSS d ≤ 1048576 ∧ ∃ A n c vs, v = .slice A n c ∧ OwRP w lo hi A n c vs d
section
variable {w w' : World} {lo hi lo' hi' B mid : Nat} {v : Value} {d : List (List (Int × Int))}
theorem RdPointSS.below (h : RdPointSS w hi v d) (hb : Below hi w w') : RdPointSS w' hi v d := by
  obtain ⟨A, n, c, vs, rfl, hn, r⟩ := h; exact ⟨A, n, c, vs, rfl, hn, r.keep hb⟩
theorem RdPointSS.more (h : RdPointSS w hi v d) (hh : hi ≤ hi') : RdPointSS w hi' v d := by
  obtain ⟨A, n, c, vs, rfl, hn, r⟩ := h; exact ⟨A, n, c, vs, rfl, hn, r.more hh⟩
theorem OwPointSS.small (h : OwPointSS w lo hi v d) : szPointSS d ≤ 1048576 := h.1
theorem OwPointSS.rd (h : OwPointSS w lo hi v d) : RdPointSS w hi v d := by
  obtain ⟨hs, A, n, c, vs, rfl, r⟩ := h
  exact ⟨A, n, c, vs, rfl, by have := r.2.1; unfold szPointSS at hs; omega, r.rd⟩
theorem OwPointSS.below (h : OwPointSS w lo hi v d) (hb : Below B w w') (hz : hi ≤ B) : OwPointSS w' lo hi v d := by
  obtain ⟨hs, A, n, c, vs, rfl, r⟩ := h; exact ⟨hs, A, n, c, vs, rfl, r.below hb hz⟩
theorem OwPointSS.kept (h : OwPointSS w lo hi v d) (hk : Kept lo' mid w w') (hz : hi ≤ w.heap.size) (hd : mid ≤ lo ∨ hi ≤ lo') : OwPointSS w' lo hi v d := by
  obtain ⟨hs, A, n, c, vs, rfl, r⟩ := h; exact ⟨hs, A, n, c, vs, rfl, r.kept hk hz hd⟩
theorem OwPointSS.widen (h : OwPointSS w lo hi v d) (h1 : lo' ≤ lo) (h2 : hi ≤ hi') : OwPointSS w lo' hi' v d := by
  obtain ⟨hs, A, n, c, vs, rfl, r⟩ := h; exact ⟨hs, A, n, c, vs, rfl, r.widen h1 h2⟩
end
theorem OwPointSS.nil_ (w : World) (lo hi : Nat) : OwPointSS w lo hi (.slice none 0 0) [] := ⟨by simp [szPointSS, lensKP], none, 0, 0, [], rfl, ⟨by simp, Nat.le_refl _, .inl rfl⟩, rfl, fun i hi => by omega, fun i j hi => by omega⟩

theorem mkP_lens (K : Int) (d : List (List (Int × Int))) (k : Nat) (h : k ≤ d.length) : lensKP (mkPointSS K d) k = lensKP d k := by
  induction k with
  | zero => rfl
  | succ k ih => rw [lensKP, lensKP, ih (by omega), mkPointSS_get _ _ _ (by omega), mkRowP_len]
theorem mkP_sz (K : Int) (d : List (List (Int × Int))) : szPointSS (mkPointSS K d) = szPointSS d := by unfold szPointSS; rw [mkPointSS_length, mkP_lens _ _ _ (Nat.le_refl _)]
end Go.Proofs.Ytbnobkojkfmccaa

/- A struct of one-cell fields among a law's parameters. -/
namespace Go.Proofs.Ytbnobkojkfmccaa
open Go.ChangeShapes Go.WideShapes Go.ChangeAt Go.RowKit
theorem field_int {H : Type} {enc : TypeId × Value → H} {P : Program} {w : World} {base n : Nat} {sp : Nat → Bool} {held : Bool} {t : TypeId} {u : Value} {y : DataW H × List MemPlace} (ht : P.underlying t = some (.int .i64)) (h : DataW.trod enc P w base sp held n t [u] = some y) :
    ∃ z, u = .int .i64 z ∧ (Lit.int .i64 z).wf = true := by
  cases n with
  | zero => simp [DataW.trod] at h
  | succ n =>
    cases u <;> simp [DataW.trod, ht] at h
    obtain ⟨⟨rfl, hw⟩, _⟩ := h
    exact ⟨_, rfl, hw⟩
theorem field_bool {H : Type} {enc : TypeId × Value → H} {P : Program} {w : World} {base n : Nat} {sp : Nat → Bool} {held : Bool} {t : TypeId} {u : Value} {y : DataW H × List MemPlace} (ht : P.underlying t = some .bool) (h : DataW.trod enc P w base sp held n t [u] = some y) :
    ∃ z, u = .bool z := by
  cases n with
  | zero => simp [DataW.trod] at h
  | succ n =>
    cases u <;> simp [DataW.trod, ht] at h
    exact ⟨_, rfl⟩
end Go.Proofs.Ytbnobkojkfmccaa

/- Arguments that are structs with lists, opened. -/
namespace Go.Proofs.Ytbnobkojkfmccaa
open Go.ChangeShapes Go.WideShapes Go.ChangeAt Go.RowKit
set_option maxRecDepth 100000

section
variable {H : Type} {enc : TypeId × Value → H} {P : Program} {w : World}
theorem row_lt {a : Addr} {K : Nat} {u : Value} (h : w.cell? (a.add K) = some u) : a.block < w.heap.size := by
  have := World.block_lt_of_cell? (a := a.add K) _ h
  rw [add_block] at this; exact this

/-- a list of structs of K ints -/
theorem open_flat (K : Nat) (hK : 0 < K) {t e : TypeId} {fs : Array Field} {fuel : Nat} {cs : List Value} {x : DataW H × List MemPlace} (ht : P.underlying t = some (.slice e)) (he : P.underlying e = some (.struct fs)) (ce : P.cellsOf e = K)
    (hf : ∀ j, j < K → ∃ f, fs[j]? = some f ∧ f.offset = j ∧ P.cellsOf f.type = 1 ∧ P.underlying f.type = some (.int .i64)) (h : DataW.trod enc P w 0 (fun _ => true) true fuel t cs = some x) :
    ∃ A n c, cs = [.slice A n c] ∧ n ≤ 9223372036854775807 ∧ (0 < n → ∃ a, A = some a ∧ a.block < w.heap.size) ∧ ∃ Z : Nat → Nat → Int, ∀ a, A = some a → ∀ i, i < n → ∀ j, j < K → w.cell? (a.add (i * K + j)) = some (.int .i64 (Z i j)) := by
  rcases Go.Deep.open_slice ht h with ⟨rfl, _⟩ | ⟨a, len, cap, m, n, D, Pl, rfl, _, hl, hm, hmm, _, hx⟩
  · exact ⟨_, _, _, rfl, by omega, fun h => by omega, fun _ _ => 0, fun a ha => by cases ha⟩
  · simp only [if_true] at hmm
    unfold maxLen at hm
    have each : ∀ i, i < len → ∃ z : Nat → Int, ∀ j, j < K → w.cell? (a.add (i * K + j)) = some (.int .i64 (z j)) := by
      intro i hi
      obtain ⟨cs', h1, h2⟩ := hx i (by omega)
      rw [ce] at h1
      obtain ⟨_, hlen, hcell⟩ := World.cells?_some h1
      obtain ⟨xs, k, hk, _, _, hxl, hf2⟩ := DataW.trod_struct he h2
      refine ⟨fun j => intOf (cs'.getD j undef), fun j hj => ?_⟩
      obtain ⟨f, f1, f2, f3, f4⟩ := hf j hj
      have g := hf2 j f f1
      have hjx : j < xs.length := by
        rw [hxl]
        exact (Array.getElem?_eq_some_iff.1 f1).1
      rw [f2, f3, List.getElem?_eq_getElem hjx] at g
      have hjl : j < cs'.length := by omega
      have e0 : cs'[j]? = some (cs'.getD j undef) := by rw [List.getD_eq_getElem?_getD, List.getElem?_eq_getElem hjl]; rfl
      have e1 : (cs'.drop j).take 1 = [cs'.getD j undef] := by
        rw [List.drop_eq_getElem_cons hjl, List.take_succ_cons, List.take_zero, List.getD_eq_getElem?_getD, List.getElem?_eq_getElem hjl]; rfl
      rw [e1] at g
      obtain ⟨z, e2, _⟩ := DataW.trod_int f4 g
      have e3 : cs'.getD j undef = .int .i64 z := by injection e2
      have e4 := hcell j hj
      rw [Go.Deep.add_add] at e4
      rw [e4, e0]
      show some (cs'.getD j undef) = some (.int .i64 (intOf (cs'.getD j undef)))
      rw [e3]; rfl
    obtain ⟨Z, hZ⟩ := Go.Deep.choose_lt each
    refine ⟨some a, len, cap, rfl, by omega, fun h0 => ⟨a, rfl, row_lt (hZ 0 h0 0 hK)⟩, Z, fun b hb i hi j hj => ?_⟩
    injection hb with hb; subst hb
    exact hZ i hi j hj

theorem field_GateS {t e : TypeId} {f0 f1 f2 : Field} {n : Nat} {u : Value} {y : DataW H × List MemPlace} (ht : P.underlying t = some (.slice e)) (he : P.underlying e = some (.struct #[f0, f1, f2])) (ce : P.cellsOf e = 3)
    (o0 : f0.offset = 0) (o1 : f1.offset = 1) (o2 : f2.offset = 2) (c0 : P.cellsOf f0.type = 1) (c1 : P.cellsOf f1.type = 1) (c2 : P.cellsOf f2.type = 1) (t0 : P.underlying f0.type = some (.int .i64)) (t1 : P.underlying f1.type = some (.int .i64)) (t2 : P.underlying f2.type = some (.int .i64))
    (h : DataW.trod enc P w 0 (fun _ => true) true n t [u] = some y) : ∃ A n c d, u = .slice A n c ∧ RdGateS w w.heap.size (.slice A n c) d := by
  obtain ⟨A, n, c, hu, hn, hb, Z, hZ⟩ := open_flat 3 (by omega) ht he ce (fun j hj => by
    match j, hj with
    | 0, _ => exact ⟨f0, rfl, o0, c0, t0⟩
    | 1, _ => exact ⟨f1, rfl, o1, c1, t1⟩
    | 2, _ => exact ⟨f2, rfl, o2, c2, t2⟩) h
  refine ⟨A, n, c, (List.range n).map fun i => (Z i 0, Z i 1, Z i 2), by simpa using hu, A, n, c, rfl, hn, by rw [cGate_length]; simp, fun h0 => ?_⟩
  obtain ⟨a, rfl, hab⟩ := hb h0
  refine ⟨a, rfl, hab, fun j v hv => ?_⟩
  have hj : j < n * 3 := by
    have := (List.getElem?_eq_some_iff.1 hv).1
    rw [cGate_length] at this; simpa using this
  have h2 : j = (j / 3) * 3 + 0 ∨ j = (j / 3) * 3 + 1 ∨ j = (j / 3) * 3 + 2 := by omega
  have hk : j / 3 < n := by omega
  generalize j / 3 = k at h2 hk
  rcases h2 with rfl | rfl | rfl
  · rw [hZ a rfl k hk 0 (by omega), ← hv, Nat.add_zero, cGate_get0 _ _ (by simpa using hk)]; simp [hk]
  · rw [hZ a rfl k hk 1 (by omega), ← hv, cGate_get1 _ _ (by simpa using hk)]; simp [hk]
  · rw [hZ a rfl k hk 2 (by omega), ← hv, cGate_get2 _ _ (by simpa using hk)]; simp [hk]

theorem field_IntS {t e : TypeId} {n : Nat} {u : Value} {y : DataW H × List MemPlace} (ht : P.underlying t = some (.slice e)) (he : P.underlying e = some (.int .i64)) (hc : P.cellsOf e = 1)
    (h : DataW.trod enc P w 0 (fun _ => true) true n t [u] = some y) : ∃ A n c d, u = .slice A n c ∧ RdIntS w w.heap.size (.slice A n c) d := by
  rcases open_ints ht he hc h with ⟨hn, _⟩ | ⟨a, len, cap, zs, hs, _, hlc, hm, hlen, _, hcell, _⟩
  · have : u = .slice none 0 0 := by simpa using hn
    exact ⟨_, _, _, [], this, _, _, _, rfl, by omega, by simp [cI], fun h => by omega⟩
  · have : u = .slice (some a) len cap := by simpa using hs
    simp only [if_true] at hlen
    unfold maxLen at hm
    refine ⟨_, _, _, zs.take len, this, _, _, _, rfl, by omega, by rw [cI_length, List.length_take]; omega, fun hn => ⟨a, rfl, row_lt (hcell 0 (by omega)), fun j v hv => ?_⟩⟩
    have hj : j < len := by
      have := (List.getElem?_eq_some_iff.1 hv).1
      rw [cI_length, List.length_take] at this; omega
    rw [hcell j (by omega), ← hv, cI_get _ _ (by rw [List.length_take]; omega)]
    simp [hj]

theorem field_PointS {t e : TypeId} {f0 f1 : Field} {n : Nat} {u : Value} {y : DataW H × List MemPlace} (ht : P.underlying t = some (.slice e)) (he : P.underlying e = some (.struct #[f0, f1])) (ce : P.cellsOf e = 2)
    (o0 : f0.offset = 0) (o1 : f1.offset = 1) (c0 : P.cellsOf f0.type = 1) (c1 : P.cellsOf f1.type = 1) (t0 : P.underlying f0.type = some (.int .i64)) (t1 : P.underlying f1.type = some (.int .i64))
    (h : DataW.trod enc P w 0 (fun _ => true) true n t [u] = some y) : ∃ A n c d, u = .slice A n c ∧ RdPointS w w.heap.size (.slice A n c) d := by
  obtain ⟨A, n, c, hu, hn, hb, Z, hZ⟩ := open_flat 2 (by omega) ht he ce (fun j hj => by
    match j, hj with
    | 0, _ => exact ⟨f0, rfl, o0, c0, t0⟩
    | 1, _ => exact ⟨f1, rfl, o1, c1, t1⟩) h
  refine ⟨A, n, c, (List.range n).map fun i => (Z i 0, Z i 1), by simpa using hu, A, n, c, rfl, hn, by rw [cP_length]; simp, fun h0 => ?_⟩
  obtain ⟨a, rfl, hab⟩ := hb h0
  refine ⟨a, rfl, hab, fun j v hv => ?_⟩
  have hj : j < n * 2 := by
    have := (List.getElem?_eq_some_iff.1 hv).1
    rw [cP_length] at this; simpa using this
  have h2 : j = (j / 2) * 2 + 0 ∨ j = (j / 2) * 2 + 1 := by omega
  have hk : j / 2 < n := by omega
  generalize j / 2 = k at h2 hk
  rcases h2 with rfl | rfl
  · rw [hZ a rfl k hk 0 (by omega), ← hv, Nat.add_zero, cP_get1 _ _ (by simpa using hk)]; simp [hk]
  · rw [hZ a rfl k hk 1 (by omega), ← hv, cP_get2 _ _ (by simpa using hk)]; simp [hk]

theorem field_PointSS {t t' e : TypeId} {f0 f1 : Field} {n : Nat} {u : Value} {y : DataW H × List MemPlace} (ht : P.underlying t = some (.slice t')) (ct : P.cellsOf t' = 1) (ht' : P.underlying t' = some (.slice e)) (he : P.underlying e = some (.struct #[f0, f1])) (ce : P.cellsOf e = 2)
    (o0 : f0.offset = 0) (o1 : f1.offset = 1) (c0 : P.cellsOf f0.type = 1) (c1 : P.cellsOf f1.type = 1) (t0 : P.underlying f0.type = some (.int .i64)) (t1 : P.underlying f1.type = some (.int .i64))
    (h : DataW.trod enc P w 0 (fun _ => true) true n t [u] = some y) : ∃ A n c d, u = .slice A n c ∧ RdPointSS w w.heap.size (.slice A n c) d := by
  rcases Go.Deep.open_slice ht h with ⟨hu, _⟩ | ⟨a, len, cap, m, n, D, Pl, hu, _, hl, hm, hmm, _, hx⟩
  · have : u = .slice none 0 0 := by simpa using hu
    exact ⟨_, _, _, [], this, _, _, _, [], rfl, by omega, ⟨rfl, fun h => by omega⟩, rfl, fun i hi => by omega⟩
  · have hu2 : u = .slice (some a) len cap := by simpa using hu
    simp only [if_true] at hmm
    unfold maxLen at hm
    have each : ∀ i, i < len → ∃ q : Value × List (Int × Int), w.cell? (a.add i) = some q.1 ∧ RdPointS w w.heap.size q.1 q.2 := by
      intro i hi
      obtain ⟨cs', h1, h2⟩ := hx i (by omega)
      rw [ct] at h1
      obtain ⟨_, hlen, hcell⟩ := World.cells?_some h1
      match cs', hlen with
      | [v], _ =>
        obtain ⟨A, n, c, d, rfl, r⟩ := field_PointS ht' he ce o0 o1 c0 c1 t0 t1 h2
        refine ⟨(_, d), ?_, r⟩
        have := hcell 0 (by omega)
        rw [Nat.mul_one, Go.Deep.add_add, Nat.add_zero] at this
        simpa using this
    obtain ⟨q, hq⟩ := Go.Deep.choose_lt each
    refine ⟨_, _, _, (List.range len).map fun i => (q i).2, hu2, _, _, _, (List.range len).map fun i => (q i).1, rfl, by omega, ⟨by simp, fun h0 => ⟨a, rfl, row_lt (hq 0 h0).1, fun j v hv => ?_⟩⟩, by simp, fun i hi => ?_⟩
    · have hj : j < len := by
        have := (List.getElem?_eq_some_iff.1 hv).1
        simpa using this
      simp [hj] at hv
      rw [← hv]; exact (hq j hj).1
    · simp only [List.getD_eq_getElem?_getD, List.getElem?_map, List.getElem?_range hi, Option.map_some, Option.getD_some]
      exact (hq i hi).2
end
end Go.Proofs.Ytbnobkojkfmccaa
