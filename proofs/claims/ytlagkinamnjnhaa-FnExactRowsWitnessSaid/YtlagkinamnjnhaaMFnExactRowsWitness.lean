import Derived.Test.YtlagkinamnjnhaaWalk2n
import Derived.Test.YtlagkinamnjnhaaFaceP
import Derived.Test.YtlagkinamnjnhaaFace2b
import Derived.Test.YtlagkinamnjnhaaWalk3a
import Derived.Test.YtlagkinamnjnhaaWalk3b
import Derived.Deep.RegionHeld3
import Derived.Deep.RegionLaw
import Derived.RangeFuncNested
import Derived.RangeFuncCalls
import Derived.RangeFuncLeaves
import Derived.Shelf.Abstract
import Derived.OwnWalkIn
import Derived.TacticsInMore
import Derived.LoopNIn
import Derived.LoopIn
import Derived.Test.YtlagkinamnjnhaaWalk8j
import Derived.Test.YtlagkinamnjnhaaAppend
import Derived.Test.YtlagkinamnjnhaaSS
import Derived.Lib.AppendZeros
import Derived.Deep.Cut
import Derived.Deep.RegionWith
import Derived.Test.YtlagkinamnjnhaaSS2
import Derived.StillTailTactics
import Derived.Test.YtlagkinamnjnhaaLaw
import Derived.Lib.SmallJoins
import Derived.Test.YtlagkinamnjnhaaCircuit
/- Chapter 2: PolyThrough as the laws meet it. Made by gen2face4.py. -/
namespace Go.Proofs.Ytlagkinamnjnhaa
open Go.RowKit
set_option maxRecDepth 100000

def R_PolyThrough_1 (d : List (Int × Int)) : Bool := ptsB d
def R_PolyThrough_0 (d : List (Int × Int)) : List Int := if R_PolyThrough_1 d = true then thrS d d.length d.length else []

end Go.Proofs.Ytlagkinamnjnhaa

/- Chapter 4: shares that are good; SharesJoin, in the model and in the program. -/
namespace Go.Proofs.Ytlagkinamnjnhaa
open Go.RowKit
set_option maxRecDepth 100000

/-- the first k have X from 1 to top -/
def xsK (ps : List (Int × Int)) (top : Int) : Nat → Bool
  | 0 => true
  | k + 1 => xsK ps top k && (decide (1 ≤ px ps k) && decide (px ps k ≤ top))
theorem xsK_mono {ps : List (Int × Int)} {top : Int} {k n : Nat} (h : xsK ps top n = true) (hk : k ≤ n) : xsK ps top k = true := by
  induction n with
  | zero => rw [show k = 0 by omega]; rfl
  | succ n ih =>
    by_cases hc : k = n + 1
    · rw [hc]; exact h
    · exact ih (by simp only [xsK, Bool.and_eq_true] at h; exact h.1) (by omega)
theorem xsK_bad {ps : List (Int × Int)} {top : Int} {k n : Nat} (h : xsK ps top (k + 1) = false) (hk : k < n) : xsK ps top n = false := by
  apply Bool.eq_false_iff.2
  intro ht
  rw [xsK_mono ht (show k + 1 ≤ n by omega)] at h; cases h
theorem xsK_at {ps : List (Int × Int)} {top : Int} {k n : Nat} (h : xsK ps top n = true) (hk : k < n) : 1 ≤ px ps k ∧ px ps k ≤ top := by
  have := xsK_mono h (show k + 1 ≤ n by omega)
  simp only [xsK, Bool.and_eq_true, decide_eq_true_eq] at this
  exact this.2
theorem ret_tib {a b : Int} {c d : Bool} (h1 : a = b) (h2 : c = d) : Ending.returned (.tuple #[.int .i64 a, .bool c]) = .returned (.tuple #[.int .i64 b, .bool d]) := by rw [h1, h2]
def shB (ps : List (Int × Int)) (top : Int) : Bool := ptsB ps && xsK ps top ps.length
theorem shB_good {ps : List (Int × Int)} {n : Nat} (hl : ps.length = n) (h : ptsB ps = true) : Good ps n ∧ n ≤ 20 := by
  simp only [ptsB, Bool.and_eq_true, decide_eq_true_eq] at h
  exact ⟨by rw [← hl]; exact Good.of h.2, by omega⟩

def joinB (d : List (Int × Int)) : Bool := decide (0 < d.length) && shB d 112
def joinI (d : List (Int × Int)) : Int := if joinB d = true then atI (thrS d d.length d.length) 0 else 0
theorem joinI_no {d : List (Int × Int)} (h : joinB d = false) : joinI d = 0 := by simp [joinI, h]

end Go.Proofs.Ytlagkinamnjnhaa

/- Chapter 4: SharesExplain, in the model and in the program; a list that begins inside its block. -/
namespace Go.Proofs.Ytlagkinamnjnhaa
open Go.RowKit
set_option maxRecDepth 100000

/-- The slice (A, n) of ints lies in a block of its own between lo and hi, from wherever in it; or it holds nothing. -/
def OwT (w : World) (lo hi : Nat) (A : Option Addr) (n : Nat) (xs : List Value) : Prop :=
  xs.length = n ∧ (n = 0 ∨ ∃ g o cs, A = some ⟨g, o, none⟩ ∧ lo ≤ g ∧ g < hi ∧ w.heap[g]? = some (.cells cs 3 (0, 0)) ∧ (cs.toList.drop o).take n = xs)
section
variable {w w' : World} {lo hi lo' hi' n g o j : Nat} {A : Option Addr} {xs : List Value} {zs : List Int}
theorem OwT.lt (h : OwT w lo hi A n xs) (hn : 0 < n) : ∃ g o cs, A = some ⟨g, o, none⟩ ∧ lo ≤ g ∧ g < hi ∧ w.heap[g]? = some (.cells cs 3 (0, 0)) ∧ (cs.toList.drop o).take n = xs := by
  rcases h.2 with h0 | h1
  · omega
  · exact h1
theorem addr_add (g o j : Nat) : (⟨g, o, none⟩ : Addr).add j = ⟨g, o + j, none⟩ := by unfold Addr.add; split <;> simp_all
theorem cut_get {cs : Array Value} {u : Value} (ht : (cs.toList.drop o).take n = xs) (hj : xs[j]? = some u) : cs[o + j]? = some u := by
  rw [← ht, List.getElem?_take] at hj
  split at hj
  · rw [List.getElem?_drop] at hj; simpa using hj
  · cases hj
theorem OwT.cellAt {u : Value} (h : OwT w lo hi (some ⟨g, o, none⟩) n xs) (hj : xs[j]? = some u) : w.cell? ⟨g, o + j, none⟩ = some u := by
  have hn : 0 < n := by have := h.1; have := (List.getElem?_eq_some_iff.1 hj).1; omega
  obtain ⟨g', o', cs, hA, _, _, hb, ht⟩ := h.lt hn
  injection hA with hA; injection hA with h1 h2; subst h1; subst h2
  rw [cell_of_row w g (o + j) cs 3 (0, 0) hb]
  exact cut_get ht hj
theorem OwT.free (h : OwT w lo hi (some ⟨g, o, none⟩) n xs) (hn : 0 < n) (j : Nat) : w.frozen? ⟨g, j, none⟩ = false := by
  obtain ⟨g', o', cs, hA, _, _, hb, _⟩ := h.lt hn
  injection hA with hA; injection hA with h1 h2; subst h1; subst h2
  exact frozen_of_row w g j cs 3 hb
theorem OwT.rd (h : OwT w lo hi A n xs) : Rd w hi 1 A n xs := by
  refine ⟨by have := h.1; omega, fun hn => ?_⟩
  obtain ⟨g, o, cs, rfl, hl, hh, hb, ht⟩ := h.lt hn
  refine ⟨_, rfl, hh, fun j u hu => ?_⟩
  rw [addr_add, cell_of_row w g (o + j) cs 3 (0, 0) hb]
  exact cut_get ht hu
theorem OwT.below {B : Nat} (h : OwT w lo hi A n xs) (hk : Below B w w') (hz : hi ≤ B) : OwT w' lo hi A n xs := by
  refine ⟨h.1, ?_⟩
  rcases h.2 with h0 | ⟨g, o, cs, rfl, a, b, hb, r⟩
  · exact .inl h0
  · exact .inr ⟨g, o, cs, rfl, a, b, by rw [hk.block g (by omega)]; exact hb, r⟩
theorem OwT.kept {mid : Nat} (h : OwT w lo hi A n xs) (hk : Kept lo' mid w w') (hz : hi ≤ w.heap.size) (hd : mid ≤ lo ∨ hi ≤ lo') : OwT w' lo hi A n xs := by
  refine ⟨h.1, ?_⟩
  rcases h.2 with h0 | ⟨g, o, cs, rfl, a, b, hb, r⟩
  · exact .inl h0
  · exact .inr ⟨g, o, cs, rfl, a, b, by rw [hk.block g (by omega) (by omega)]; exact hb, r⟩
theorem OwT.widen (h : OwT w lo hi A n xs) (h1 : lo' ≤ lo) (h2 : hi ≤ hi') : OwT w lo' hi' A n xs := by
  refine ⟨h.1, ?_⟩
  rcases h.2 with h0 | ⟨g, o, cs, rfl, a, b, r⟩
  · exact .inl h0
  · exact .inr ⟨g, o, cs, rfl, by omega, by omega, r⟩
theorem OwT.set (h : OwT w lo hi (some ⟨g, o, none⟩) n xs) (j : Nat) (u : Value) : OwT (w.setCell ⟨g, o + j, none⟩ u) lo hi (some ⟨g, o, none⟩) n (xs.set j u) := by
  refine ⟨by simpa using h.1, ?_⟩
  rcases h.2 with h0 | ⟨g', o', cs, hA, a, b, hb, ht⟩
  · exact .inl h0
  · have hA' := hA
    injection hA with hA; injection hA with h1 h2; subst h1; subst h2
    refine .inr ⟨g, o, cs.setIfInBounds (o + j) u, rfl, a, b, heap_setCell_same w g (o + j) cs 3 u hb, ?_⟩
    rw [Array.toList_setIfInBounds, List.drop_set, if_neg (by omega), Nat.add_sub_cancel_left, List.take_set, ht]
theorem OwT.len (h : OwT w lo hi A n (cI zs)) : zs.length = n := by have := h.1; rw [cI_length] at this; omega
end
def OwIntT (w : World) (lo hi : Nat) (v : Value) (d : List Int) : Prop := d.length ≤ 1048576 ∧ ∃ A n c, v = .slice A n c ∧ OwT w lo hi A n (cI d)
section
variable {w w' : World} {lo hi lo' hi' B mid : Nat} {v : Value} {d : List Int}
theorem OwIntT.small (h : OwIntT w lo hi v d) : szIntS d ≤ 1048576 := h.1
theorem OwIntT.rd (h : OwIntT w lo hi v d) : RdIntS w hi v d := by
  obtain ⟨hs, A, n, c, rfl, r⟩ := h
  exact ⟨A, n, c, rfl, by have := r.len; omega, r.rd⟩
theorem OwIntT.below (h : OwIntT w lo hi v d) (hb : Below B w w') (hz : hi ≤ B) : OwIntT w' lo hi v d := by
  obtain ⟨hs, A, n, c, rfl, r⟩ := h; exact ⟨hs, A, n, c, rfl, r.below hb hz⟩
theorem OwIntT.kept (h : OwIntT w lo hi v d) (hk : Kept lo' mid w w') (hz : hi ≤ w.heap.size) (hd : mid ≤ lo ∨ hi ≤ lo') : OwIntT w' lo hi v d := by
  obtain ⟨hs, A, n, c, rfl, r⟩ := h; exact ⟨hs, A, n, c, rfl, r.kept hk hz hd⟩
theorem OwIntT.widen (h : OwIntT w lo hi v d) (h1 : lo' ≤ lo) (h2 : hi ≤ hi') : OwIntT w lo' hi' v d := by
  obtain ⟨hs, A, n, c, rfl, r⟩ := h; exact ⟨hs, A, n, c, rfl, r.widen h1 h2⟩
theorem OwIntT.nil_ (w : World) (lo hi : Nat) : OwIntT w lo hi (.slice none 0 0) [] := ⟨by simp, none, 0, 0, rfl, by simp [cI], .inl rfl⟩
end

set_option maxHeartbeats 400000 in
theorem l_markIntT (A : Option Addr) (n c lo hi : Nat) (zs : List Int) (K : Int) (w : World) (h : OwT w lo hi A n (cI zs)) (hn : n ≤ 1048576) (hK : 0 ≤ K) (hK2 : K ≤ 1000000000000) :
    Calls Try.prog 20 #[.slice A n c, .int .i64 K] w fun e w' => e = .returned (.int .i64 (K + n)) ∧ OwT w' lo hi A n (cI (iota K n)) ∧ Kept lo hi w w' ∧ w'.heap.size = w.heap.size := by
  have hlen : Hid (zs.length = n) := Lib.hid h.len
  have H := Lib.hid h
  clear h
  go_enter Try.func20, Try.ntmps20
  go_wp2
  go_loopw [1, 5] (fun kk i wr => ∃ k : Nat, k ≤ n ∧ i = .int .i64 k ∧ kk = .int .i64 (K + k) ∧ Hid (OwT wr lo hi A n (cI (iota K k ++ zs.drop k))) ∧ Hid (Kept lo hi w wr) ∧ Hid (wr.heap.size = w.heap.size)) (fun _ i _ => n - (intOf i).toNat)
  case atStart => exact ⟨0, Nat.zero_le _, rfl, by go_num, H, Lib.hid (Kept.refl _ _ _), Lib.hid rfl⟩
  case round =>
    obtain ⟨k, hk, rfl, rfl, HO, HB, HZ⟩ := hrel
    by_cases hlt : k < n
    · obtain ⟨g, o, cs, hA, g1, g2, _, _⟩ := HO.out.lt (by omega)
      subst hA
      have hd : wr.cell? ⟨g, o + k, none⟩ = some (.int .i64 ((iota K k ++ zs.drop k).getD k 0)) := HO.out.cellAt (cI_get _ _ (by simp [iota_length]; have := hlen.out; omega))
      have hf := HO.out.free (by omega) (o + k)
      have HO2 := Lib.hid (HO.out.set k (.int .i64 (K + k)))
      rw [cI_set, mark_step K hlen.out hlt] at HO2
      have HB2 := Lib.hid (HB.out.setCell (p := ⟨g, o + k, none⟩) g1 g2 (.int .i64 (K + k)))
      have HZ2 : Hid ((wr.setCell ⟨g, o + k, none⟩ (.int .i64 (K + k))).heap.size = w.heap.size) := Lib.hid (by rw [World.size_setCell]; exact HZ.out)
      clear HO HB HZ
      have i0 : (0 : Int) ≤ (k : Int) := by omega
      have i1 : (k : Int) < (n : Int) := by omega
      go_wp2
      go_roundw
      case rel => exact ⟨k + 1, by omega, by go_num, by go_num, HO2, HB2, HZ2⟩
      case measure => simp [intOf] <;> omega
    · have hkn : k = n := by omega
      have HO2 : Hid (OwT wr lo hi A n (cI (iota K n))) := Lib.hid (by
        have := HO.out; rw [hkn, List.drop_of_length_le (by have := hlen.out; omega), List.append_nil] at this; exact this)
      have HR : Hid (K + (k : Int) = K + (n : Int)) := Lib.hid (by rw [hkn])
      clear HO hkn
      go_wp2
      go_ret
      exact ⟨ret_int HR.out, HO2.out, HB.out, HZ.out⟩
theorem L_markIntT (lo hi : Nat) (v : Value) (d : List Int) (K : Int) (w : World) (h : OwIntT w lo hi v d) (_hz : hi ≤ w.heap.size) (hK : 0 ≤ K) (hK2 : K ≤ 1000000000) :
    Calls Try.prog 20 #[v, .int .i64 K] w fun e w' => ∃ K', e = .returned (.int .i64 K') ∧ Hid (K' = K + szIntS d) ∧ 0 ≤ K' ∧ K' ≤ K + 1048576 ∧ OwIntT w' lo hi v (mkIntS K d) ∧ Kept lo hi w w' := by
  obtain ⟨hs, A, n, c, rfl, r⟩ := h
  have hl := r.len
  refine (l_markIntT A n c lo hi d K w r (by omega) hK (by omega)).mono fun e w' ⟨he, ho, hk, _⟩ => ?_
  refine ⟨_, he, Lib.hid (by unfold szIntS; omega), by omega, by omega, ⟨by rw [mkIntS, iota_length]; exact hs, _, _, _, rfl, ?_⟩, hk⟩
  unfold mkIntS; rw [hl]; exact ho
theorem L_eqIntT (hi hi' : Nat) (v v' : Value) (d : List Int) (w : World) (h : RdIntS w hi v d) (h' : RdIntS w hi' v' d) (hh : hi ≤ w.heap.size) (hh' : hi' ≤ w.heap.size) (hs : szIntS d ≤ 1048576) :
    Calls Try.prog 19 #[v, v'] w fun e w' => e = .returned (.bool true) ∧ Below w.heap.size w w' := L_eqIntS hi hi' v v' d w h h' hh hh' hs
theorem L_heldIntT (hi : Nat) (v : Value) (d : List Int) (K q : Int) (w : World) (h : RdIntS w hi v (mkIntS K d)) (hz : hi ≤ w.heap.size) (hs : szIntS d ≤ 1048576) (hq : Hid (q = K)) (hK : 0 ≤ K) (hK2 : K ≤ 1000000000) :
    Calls Try.prog 21 #[v, .int .i64 q] w fun e w' => ∃ K', e = .returned (.int .i64 K') ∧ Hid (K' = K + szIntS d) ∧ 0 ≤ K' ∧ K' ≤ K + 1048576 ∧ Below w.heap.size w w' := L_heldIntS hi v d K q w h hz hs hq hK hK2

/-! what both say -/
def expB (s : Int) (d : List (Int × Int)) : Bool := numB s && (decide (d.length ≤ 6) && shB d 7)
def expL (s : Int) (d : List (Int × Int)) : List Int := (List.range d.length).map fun i => (thrS ((0, s) :: d) (1 + d.length) (1 + d.length)).getD (i + 1) 0
def R_SharesExplain_1 (s : Int) (d : List (Int × Int)) : Bool := expB s d
def R_SharesExplain_0 (s : Int) (d : List (Int × Int)) : List Int := if expB s d = true then expL s d else []
theorem expL_length (s : Int) (d : List (Int × Int)) : (expL s d).length = d.length := by simp [expL]
theorem expL_get (s : Int) (d : List (Int × Int)) (i : Nat) (h : i < d.length) : (expL s d).getD i 0 = (thrS ((0, s) :: d) (1 + d.length) (1 + d.length)).getD (i + 1) 0 := by
  simp [expL, h]
theorem exp_good {s : Int} {d : List (Int × Int)} (hs : numB s = true) (h : shB d 7 = true) (_h6 : d.length ≤ 6) : Good ((0, s) :: d) (1 + d.length) := by
  simp only [shB, Bool.and_eq_true] at h
  have hg := (shB_good rfl h.1).1
  have hx := fun i (hi : i < d.length) => xsK_at h.2 hi
  have hsr := (numB_iff s).1 hs
  have p0 : px ((0, s) :: d) 0 = 0 := rfl
  have q0 : py ((0, s) :: d) 0 = s := rfl
  have p1 : ∀ i, px ((0, s) :: d) (i + 1) = px d i := fun i => by simp [px]
  have q1 : ∀ i, py ((0, s) :: d) (i + 1) = py d i := fun i => by simp [py]
  refine ⟨fun i hi => ?_, fun i hi => ?_, fun i j hi hj hij => ?_⟩
  · cases i with
    | zero => rw [p0]; omega
    | succ i => rw [p1]; exact hg.x0 i (by omega)
  · cases i with
    | zero => rw [q0]; exact hsr
    | succ i => rw [q1]; exact hg.y0 i (by omega)
  · cases i with
    | zero =>
      cases j with
      | zero => exact absurd rfl hij
      | succ j => rw [p0, p1]; have := hx j (by omega); omega
    | succ i =>
      cases j with
      | zero => rw [p0, p1]; have := hx i (by omega); omega
      | succ j => rw [p1, p1]; exact hg.ne i j (by omega) (by omega) (by omega)
theorem cP_one (ps : List (Int × Int)) : ∀ u ∈ cP ps, u.oneCell' = true := by
  intro u hu
  simp only [cP, List.mem_flatMap] at hu
  obtain ⟨p, _, hp⟩ := hu
  simp at hp
  rcases hp with rfl | rfl <;> rfl
end Go.Proofs.Ytlagkinamnjnhaa

/- Chapter 4: SharesExplain as the laws meet it. -/
namespace Go.Proofs.Ytlagkinamnjnhaa
open Go.RowKit
set_option maxRecDepth 100000

theorem set_same0 (l : List Int) (k : Nat) (hk : k < l.length) (h : l.getD k 0 = 0) : l.set k 0 = l := by
  apply List.ext_getElem?
  intro i
  rw [List.getElem?_set]
  by_cases hc : k = i
  · subst hc
    rw [if_pos rfl, if_pos hk]
    rw [getD_of _ _ hk] at h
    rw [List.getElem?_eq_getElem hk, h]
  · rw [if_neg hc]
theorem fill_zero {zs : List Int} {n k : Nat} (hz : zs.length = n) (hk : k < n) (h0 : zs.getD k 0 = 0) : zs.take k ++ List.replicate (n - k) 0 = zs.take (k + 1) ++ List.replicate (n - (k + 1)) 0 := by
  rw [← copy_step hz hk, h0]
  refine (set_same0 _ _ (by simp; omega) ?_).symm
  have hl : (zs.take k).length = k := by simp; omega
  simp [hl, show 0 < n - k by omega]

end Go.Proofs.Ytlagkinamnjnhaa

/- Chapter 4: lists of points as results: marked, held; the numbers in them; SharesScale in the model. -/
namespace Go.Proofs.Ytlagkinamnjnhaa
open Go.RowKit
set_option maxRecDepth 100000

theorem iotaP_get (K : Int) (n k : Nat) (h : k < n) : (iotaP K n).getD k (0, 0) = (K + 2 * (k : Int), K + 2 * (k : Int) + 1) := by
  simp [iotaP, h]

/-! the numbers in a list of points -/
def numK (ps : List (Int × Int)) : Nat → Bool
  | 0 => true
  | k + 1 => numK ps k && (numB (px ps k) && numB (py ps k))
theorem numK_mono {ps : List (Int × Int)} {k n : Nat} (h : numK ps n = true) (hk : k ≤ n) : numK ps k = true := by
  induction n with
  | zero => rw [show k = 0 by omega]; rfl
  | succ n ih =>
    by_cases hc : k = n + 1
    · rw [hc]; exact h
    · exact ih (by simp only [numK, Bool.and_eq_true] at h; exact h.1) (by omega)
theorem numK_bad {ps : List (Int × Int)} {k n : Nat} (h : numK ps (k + 1) = false) (hk : k < n) : numK ps n = false := by
  apply Bool.eq_false_iff.2
  intro ht
  rw [numK_mono ht (show k + 1 ≤ n by omega)] at h; cases h
theorem numK_at {ps : List (Int × Int)} {k n : Nat} (h : numK ps n = true) (hk : k < n) : (0 ≤ px ps k ∧ px ps k ≤ 112) ∧ 0 ≤ py ps k ∧ py ps k ≤ 112 := by
  have := numK_mono h (show k + 1 ≤ n by omega)
  simp only [numK, Bool.and_eq_true] at this
  exact ⟨(numB_iff _).1 this.2.1, (numB_iff _).1 this.2.2⟩

end Go.Proofs.Ytlagkinamnjnhaa

/- Chapter 3 in the model: elimination. -/
namespace Go.Proofs.Ytlagkinamnjnhaa
open Go.RowKit
set_option maxRecDepth 100000

def augR (d : List (List Int)) (r : List Int) (k : Nat) : List (List Int) := (List.range k).map fun i => d.getD i [] ++ [r.getD i 0]
theorem augR_succ (d : List (List Int)) (r : List Int) (k : Nat) : augR d r (k + 1) = augR d r k ++ [d.getD k [] ++ [r.getD k 0]] := by simp [augR, List.range_succ]
theorem getD_snoc {α : Type} (l : List α) (x z : α) (j : Nat) : (l ++ [x]).getD j z = if j < l.length then l.getD j z else if j = l.length then x else z := by
  simp only [List.getD_eq_getElem?_getD, List.getElem?_append]
  by_cases h : j < l.length
  · rw [if_pos h, if_pos h]
  · rw [if_neg h, if_neg h]
    by_cases h2 : j = l.length
    · rw [if_pos h2, h2, Nat.sub_self]; rfl
    · rw [if_neg h2, List.getElem?_eq_none (by simp; omega)]; rfl
theorem own_apart {w : World} {lo e n g : Nat} {v : Value} {xs : List Value} {ca : Array Value} (h : w.ownsRow lo e 1 v n xs) (he : e ≠ 3) (hg : w.heap[g]? = some (.cells ca 3 (0, 0))) : v.ownBlock ≠ some g := by
  intro e1
  rcases h.2 with ⟨rfl, _⟩ | ⟨g', cap, cur, rfl, _, hh, _⟩
  · simp [Value.ownBlock] at e1
  · simp [Value.ownBlock] at e1
    subst e1
    rw [hg] at hh; injection hh with hh; injection hh with _ ht
    exact he ht.symm
theorem own_in {w : World} {lo e n g : Nat} {v : Value} {xs : List Value} (h : w.ownsRow lo e 1 v n xs) (hg : v.ownBlock = some g) : g < w.heap.size := by
  rcases h.2 with ⟨rfl, _⟩ | ⟨g', cap, cur, rfl, _, hh, _⟩
  · simp [Value.ownBlock] at hg
  · simp [Value.ownBlock] at hg
    subst hg
    exact (Array.getElem?_eq_some_iff.1 hh).1
/-- one row more -/
theorem grow_rows {wr w2 W w3 : World} {lo i co L : Nat} {Ao : Option Addr} {ws : List Value} {D : List (List Int)} {v2 v3 : Value} {x : List Int}
    (HN : wr.ownsRow lo 23 1 (.slice Ao i co) i ws) (HO : OwR wr lo wr.heap.size Ao i co ws D) (hlo : lo ≤ wr.heap.size) (hb2 : Below wr.heap.size wr w2) (hrow : w2.ownsRow wr.heap.size 3 1 v2 L (cI x)) (hx : L ≤ 1048576)
    (hW : Below w2.heap.size w2 W) (hown : w3.ownsRow lo 23 1 v3 (i + 1) (ws ++ [v2])) (hg : W.grownBy w3 (Value.ownBlock (.slice Ao i co))) :
    ∃ A3 c3, v3 = .slice A3 (i + 1) c3 ∧ w3.ownsRow lo 23 1 (.slice A3 (i + 1) c3) (i + 1) (ws ++ [v2]) ∧ OwR w3 lo w3.heap.size A3 (i + 1) c3 (ws ++ [v2]) (D ++ [x]) := by
  obtain ⟨A3, c3, rfl, ho3⟩ := Ow.of_own hown
  obtain ⟨h1, h2, h3, h4⟩ := HO
  have hlw : ws.length = i := by have := h1.1; omega
  have hz2 := hb2.size
  have hzW := hW.size
  have hz3 : w2.heap.size ≤ w3.heap.size := Nat.le_trans hzW hg.size
  -- a row of ints stays what it was
  have keep : ∀ {l h' : Nat} {u : Value} {y : List Int}, OwIntS w2 l h' u y → h' ≤ w2.heap.size → OwIntS w3 l h' u y := by
    intro l h' u y hu hh
    by_cases hy : y = []
    · subst hy; exact hu.empty _ _ _
    · obtain ⟨g, hg1, hg2, hgb, ht, cs, hcs⟩ := hu.tight hy
      have hne : Value.ownBlock (.slice Ao i co) ≠ some g := by
        intro e
        have hgw := own_in HN e
        exact own_apart HN (by decide) (by rw [← hb2.block g hgw]; exact hcs) e
      have hgk : w3.heap[g]? = w2.heap[g]? := by
        rw [hg.block g (by omega) (fun e => hne e.symm), hW.block g (by omega)]
      obtain ⟨hs, A, n, c, rfl, r⟩ := hu
      refine ⟨hs, A, n, c, rfl, r.1, r.2.1, ?_⟩
      rcases r.2.2 with r0 | ⟨g2, cs2, hA, q1, q2, q3, q4⟩
      · exact .inl r0
      · have : g2 = g := by rw [hA] at hgb; simpa [Value.ownBlock] using hgb
        subst this
        exact .inr ⟨g2, cs2, hA, q1, q2, by rw [hgk]; exact q3, q4⟩
  have hv2 : OwIntS w2 wr.heap.size w2.heap.size v2 x := own_done rfl hrow hx
  have gv : ∀ k, (ws ++ [v2]).getD k undef = if k < i then ws.getD k undef else if k = i then v2 else undef := by intro k; rw [getD_snoc, hlw]
  have gd : ∀ k, (D ++ [x]).getD k [] = if k < i then D.getD k [] else if k = i then x else [] := by intro k; rw [getD_snoc, h2]
  refine ⟨A3, c3, rfl, hown, ho3, by simp [h2], fun k hk => ?_, fun j k hj hk hjk hxj hxk => ?_⟩
  · rw [gv, gd]
    by_cases hki : k < i
    · rw [if_pos hki, if_pos hki]
      exact (keep ((h3 k hki).below hb2 (Nat.le_refl _)) hz2).widen (Nat.le_refl _) (by omega)
    · have : k = i := by omega
      subst this
      rw [if_neg hki, if_neg hki, if_pos rfl, if_pos rfl]
      exact (keep hv2 (Nat.le_refl _)).widen hlo hz3
  · rw [gd] at hxj hxk
    rw [gv, gv]
    by_cases hji : j < i
    · rw [if_pos hji] at hxj
      rw [if_pos hji]
      by_cases hki : k < i
      · rw [if_pos hki] at hxk
        rw [if_pos hki]
        exact h4 j k hji hki hjk hxj hxk
      · have : k = i := by omega
        subst this
        rw [if_neg hki, if_pos rfl] at hxk
        rw [if_neg hki, if_pos rfl]
        obtain ⟨g, _, a2, b2, _⟩ := (h3 j hji).tight hxj
        obtain ⟨g', a1, _, b1, _⟩ := hv2.tight hxk
        rw [b1, b2]; intro e; injection e with e; omega
    · have : j = i := by omega
      subst this
      rw [if_neg hji, if_pos rfl] at hxj
      rw [if_neg hji, if_pos rfl]
      have hki : k < j := by omega
      rw [if_pos hki] at hxk
      rw [if_pos hki]
      obtain ⟨g, _, a2, b2, _⟩ := (h3 k hki).tight hxk
      obtain ⟨g', a1, _, b1, _⟩ := hv2.tight hxj
      rw [b1, b2]; intro e; injection e with e; omega

theorem below_drew {B : Nat} {w w' : World} (h : Below B w w') : Below B w w'.drew := ⟨h.os, h.tape, h.output, h.size, h.block⟩
theorem hid_size {w : World} {g g' : Nat} {o : Obj} (e : g' = g) (h : w.heap[g']? = some o) : w.heap[g]? = some o := e ▸ h
theorem own_to {w w' : World} {base e n : Nat} {v : Value} {xs : List Value} (h : w.ownsRow base e 1 v n xs) (hb : Below w.heap.size w w') : w'.ownsRow base e 1 v n xs := ownsRow_below h hb
section
variable {ops : Array Oper} {o : Oper} {a : Act} {K : Act → World → Prop} {Q : Exit → Act → World → Prop} {E : Prop} {W wr : World}
/-- append([]int{}, x...) -/
theorem step_lit (hgd : o.guard = none) (s x : Operand)
    (ho : o.op = .call { callee := .builtin .append, args := #[s, x], argTypes := #[23, 23] })
    {lo B m c : Nat} {A : Option Addr} {zs : List Int} (hs : a.eval s = .slice (some ⟨B, 0, none⟩) 0 0) (hx : a.eval x = .slice A m c) (hB : wr.heap.size ≤ B) (hlit : W.heap[B]? = some (.cells #[] 3 (0, 0)))
    (hr : Rd wr lo 1 A m (cI zs)) (hlo : lo ≤ wr.heap.size) (hbel : Below wr.heap.size wr W) (hm : m ≤ 1000)
    (h : ∀ v' w', Hid (w'.ownsRow wr.heap.size 3 1 v' m (cI zs)) → Hid (Below wr.heap.size wr w') → Hid (∀ (g : Nat) (u : Value), W.heap[g]? = some (Obj.cells #[u] 3 (0, 0)) → w'.heap[g]? = some (Obj.cells #[u] 3 (0, 0))) → K (a.put o.dst v') w') :
    if Region.wanted o (yielded ops a.tmps) = true then Oper.wp Try.prog o a W K Q else E := by
  refine step_append_rd hgd s x _ ho wr.heap.size 3 _ 1 8 Try.underlying23 info_int rfl (by decide) _ 0 [] hs (own_lit0 hB hlit) _ _ m c (cI zs) hx (hr.below (hbel.mono hlo)) (cI_one _) (by unfold maxLen; omega) (by omega) hbel.size ?_
  intro v1 w1 hown hg _
  refine h v1 w1 (Lib.hid (by simpa using hown)) (Lib.hid (below_grown hbel hg (own_block (own_lit0 (e := 3) (size := 1) hB hlit)) hbel.size)) (Lib.hid fun g u hu => ?_)
  rw [hg.block g (Array.getElem?_eq_some_iff.1 hu).1 ?_]
  · exact hu
  · intro e
    simp [Value.ownBlock] at e
    subst e
    rw [hlit] at hu; simp at hu
/-- append(v, q) -/
theorem step_lit2 {w1 : World} (hgd : o.guard = none) (s x : Operand)
    (ho : o.op = .call { callee := .builtin .append, args := #[s, x], argTypes := #[23, 23] })
    {g m : Nat} {zs : List Int} {v : Value} {q : Int} (hs : a.eval s = v) (hx : a.eval x = .slice (some ⟨g, 0, none⟩) 1 1) (hown : w1.ownsRow wr.heap.size 3 1 v m (cI zs)) (hb1 : Below wr.heap.size wr w1) (hW : Below w1.heap.size w1 W)
    (hl : W.heap[g]? = some (.cells #[.int .i64 q] 3 (0, 0))) (hm : m ≤ 1000)
    (h : ∀ A' c' w', Hid (w'.ownsRow wr.heap.size 3 1 (.slice A' (m + 1) c') (m + 1) (cI (zs ++ [q]))) → Hid (Below wr.heap.size wr w') → K (a.put o.dst (.slice A' (m + 1) c')) w') :
    if Region.wanted o (yielded ops a.tmps) = true then Oper.wp Try.prog o a W K Q else E := by
  have hb2 : Below wr.heap.size wr W := hb1.trans (hW.mono hb1.size)
  refine step_append_rd hgd s x _ ho wr.heap.size 3 _ 1 8 Try.underlying23 info_int rfl (by decide) v m (cI zs) hs (own_to hown hW) _ _ 1 1 (cI [q]) hx (lit_at hl) (cI_one _) (by unfold maxLen; omega) (by omega) hb2.size ?_
  intro v1 w1 hown' hg _
  obtain ⟨A1, c1, rfl, _⟩ := Ow.of_own hown'
  exact h A1 c1 w1 (Lib.hid (by rw [cI_append]; exact hown')) (Lib.hid (below_grown hb2 hg (own_block hown) hb2.size))
/-- append(rows, v) -/
theorem step_lit3 {w w2 : World} (hgd : o.guard = none) (s x : Operand)
    (ho : o.op = .call { callee := .builtin .append, args := #[s, x], argTypes := #[110, 110] })
    {g i co L : Nat} {Ao : Option Addr} {ws : List Value} {D : List (List Int)} {zs : List Int} {v : Value} (hs : a.eval s = .slice Ao i co) (hx : a.eval x = .slice (some ⟨g, 0, none⟩) 1 1)
    (HO : wr.ownsRow w.heap.size 23 1 (.slice Ao i co) i ws ∧ OwR wr w.heap.size wr.heap.size Ao i co ws D) (HB : Below w.heap.size w wr) (hown : w2.ownsRow wr.heap.size 3 1 v L (cI zs)) (hb2 : Below wr.heap.size wr w2) (hW : Below w2.heap.size w2 W)
    (hl : W.heap[g]? = some (.cells #[v] 23 (0, 0))) (hi : i ≤ 1000) (hL : L ≤ 1000)
    (h : ∀ A3 c3 w3, Hid (w3.ownsRow w.heap.size 23 1 (.slice A3 (i + 1) c3) (i + 1) (ws ++ [v]) ∧ OwR w3 w.heap.size w3.heap.size A3 (i + 1) c3 (ws ++ [v]) (D ++ [zs])) → Hid (Below w.heap.size w w3) → K (a.put o.dst (.slice A3 (i + 1) c3)) w3) :
    if Region.wanted o (yielded ops a.tmps) = true then Oper.wp Try.prog o a W K Q else E := by
  have hz := HB.size
  have hb3 : Below wr.heap.size wr W := hb2.trans (hW.mono hb2.size)
  have hb4 : Below w.heap.size w W := HB.trans (hb3.mono hz)
  have one : ∀ u ∈ [v], u.oneCell' = true := by
    intro u hu
    obtain rfl : u = v := by simpa using hu
    obtain ⟨A2, c2, rfl, _⟩ := Ow.of_own hown
    rfl
  refine step_append_rd hgd s x _ ho w.heap.size 23 _ 1 24 Try.underlying110 info_row rfl (by decide) (.slice Ao i co) i ws hs (own_to HO.1 (hb3.mono (Nat.le_refl _))) _ _ 1 1 [v] hx (lit_at hl) one (by unfold maxLen; omega) (by omega) hb4.size ?_
  intro v3 w3 hown' hg _
  obtain ⟨A3, c3, rfl, h1, h2⟩ := grow_rows HO.1 HO.2 hz hb2 hown (by omega) hW hown' hg
  exact h A3 c3 w3 (Lib.hid ⟨h1, h2⟩) (Lib.hid (below_grown hb4 hg (own_block HO.1) hb4.size))
end
end Go.Proofs.Ytlagkinamnjnhaa

/- Chapter 4: SharesScale in the model. -/
namespace Go.Proofs.Ytlagkinamnjnhaa
open Go.RowKit
set_option maxRecDepth 100000

def sclP (ps : List (Int × Int)) (b : Int) (k : Nat) : List (Int × Int) := (List.range k).map fun i => (px ps i, py ps i * b % 113)
theorem sclP_succ (ps : List (Int × Int)) (b : Int) (k : Nat) : sclP ps b (k + 1) = sclP ps b k ++ [(px ps k, py ps k * b % 113)] := by simp [sclP, List.range_succ]
theorem sclP_length (ps : List (Int × Int)) (b : Int) (k : Nat) : (sclP ps b k).length = k := by simp [sclP]
def R_SharesScale_1 (d : List (Int × Int)) (b : Int) : Bool := numK d d.length && numB b
def R_SharesScale_0 (d : List (Int × Int)) (b : Int) : List (Int × Int) := if R_SharesScale_1 d b = true then sclP d b d.length else []
theorem cP_append (ps qs : List (Int × Int)) : cP (ps ++ qs) = cP ps ++ cP qs := by simp [cP]
theorem lit_pt_at {w : World} {B e : Nat} {u v : Value} (h : w.heap[B]? = some (.cells #[u, v] e (0, 0))) : Rd w (B + 1) 2 (some ⟨B, 0, none⟩) 1 [u, v] :=
  ⟨rfl, fun _ => ⟨_, rfl, Nat.lt_succ_self _, fun j x hx => by
    have hj : j < 2 := by have := (List.getElem?_eq_some_iff.1 hx).1; simpa using this
    rw [show (⟨B, 0, none⟩ : Addr).add j = ⟨B, 0 + j, none⟩ from addr_add B 0 j, Nat.zero_add, cell_of_row w B j _ _ _ h]
    simpa using hx⟩⟩
section
variable {ops : Array Oper} {o : Oper} {a : Act} {K : Act → World → Prop} {Q : Exit → Act → World → Prop} {E : Prop} {W wr w : World}
end

end Go.Proofs.Ytlagkinamnjnhaa

/- Chapter 4: the program's closures and its iterator over shares. -/
namespace Go.Proofs.Ytlagkinamnjnhaa
open Go.RowKit Go.Shelf
def uptoF (f : Nat → Int × Int) (k : Nat) : List (Int × Int) := (List.range k).map f
theorem uptoF_succ (f : Nat → Int × Int) (k : Nat) : uptoF f (k + 1) = uptoF f k ++ [f k] := by simp [uptoF, List.range_succ]
theorem uptoF_length (f : Nat → Int × Int) (k : Nat) : (uptoF f k).length = k := by simp [uptoF]
theorem grown_of_below {w w' : World} (h : Below w.heap.size w w') : w.grownBy w' none := ⟨h.os, h.tape, h.output, h.size, fun k hk _ => h.block k hk⟩
def encP (p : Int × Int) : Array Value := #[.agg #[.int .i64 p.1, .int .i64 p.2]]
end Go.Proofs.Ytlagkinamnjnhaa

/- Chapter 4: the iterator and what lists it, over SharesScale's closure. -/
namespace Go.Proofs.Ytlagkinamnjnhaa
open Go.RowKit Go.Shelf
end Go.Proofs.Ytlagkinamnjnhaa

/- Chapter 4: the list of what an iterator over shares gives, over SharesScale's closure. -/
namespace Go.Proofs.Ytlagkinamnjnhaa
open Go.RowKit Go.Shelf
set_option maxRecDepth 100000
attribute [local go_sem] Oper.semAt_some

theorem run_make0 {P : Program} {t e : TypeId} {z : Value} {bytes size : Nat} (ht : P.underlying t = some (.slice e)) (hi : (P.info? e).map (fun i => (i.zero, i.size, i.bytes)) = some (some z, size, bytes))
    (n : Nat) (hb : bytes * n ≤ 281474976710656) (hn : n ≤ 9223372036854775807) (w : World) :
    (Instr.makeSlice t (.int .i64 0) (.int .i64 (n : Int))).run P w = .ok (.slice (some ⟨w.heap.size, 0, none⟩) 0 n) (w.alloc (.cells (madeCells z.cells (n * size)) e)) := by
  obtain ⟨i, hi, hz0, hz1, hz2⟩ := info_parts hi
  have hb' : (i.bytes : Int) * (n : Int) ≤ 281474976710656 := by
    have h : ((i.bytes * n : Nat) : Int) ≤ 281474976710656 := by rw [hz2]; omega
    rwa [Int.natCast_mul] at h
  have hr := run_make (P := P) w t e i z ht hi hz0 .i64 .i64 0 n (by omega) (by omega) hb' (by omega)
  simp only [Int.toNat_natCast, hz1] at hr
  exact hr
theorem own_make0 (w : World) (cs : Array Value) (e size n : Nat) (hs : cs.size = n * size) (hn : n ≤ maxLen) : (w.alloc (.cells cs e)).ownsRow w.heap.size e size (.slice (some ⟨w.heap.size, 0, none⟩) 0 n) 0 [] :=
  ⟨by simp, .inr ⟨w.heap.size, n, cs, rfl, Nat.le_refl _, heap_alloc_new _ _, Nat.zero_le _, hn, hs, by simp⟩⟩
theorem cell_two_new (w : World) (x y : Value) (t : TypeId) : ∀ j u, [x, y][j]? = some u → (w.alloc (.cells #[x, y] t)).cell? ((⟨w.heap.size, 0, none⟩ : Addr).add j) = some u := by
  intro j u hj
  rw [addr_add, Nat.zero_add, World.cell?_alloc_new]
  simpa using hj
theorem madeCells_size (z : Array Value) (n : Nat) : (madeCells z n).size = n := by simp [madeCells]

end Go.Proofs.Ytlagkinamnjnhaa

/- Chapter 8 in the program: gate by gate. -/
namespace Go.Proofs.Ytlagkinamnjnhaa
open Go.RowKit
set_option maxRecDepth 100000

theorem own_val {w1 : World} {B k : Nat} {v : Value} {ys : List Int} (h : w1.ownsRow B 3 1 v k (cI ys)) : ∃ A c, v = .slice A k c ∧ Ow w1 B w1.heap.size 3 1 A k c (cI ys) := by
  obtain ⟨A, c, rfl, ho⟩ := Ow.of_own h
  exact ⟨A, c, rfl, ho⟩

set_option maxHeartbeats 8000000 in
theorem i_gateByGate (F : FuncId) (caps : Array Value) (f : Int × Int × Int → List Int → Int) (Ag : Option Addr) (ng cg : Nat) (gs : List (Int × Int × Int)) (w : World) (hg : Rd w w.heap.size 1 Ag ng (gs.map gI)) (hn : ng ≤ 16)
    (eg : ∀ args W, (callFunc F args).run Try.prog W = .ok (.enter F args) W)
    (hS : ∀ W k A c, Below w.heap.size w W → k < ng → Rd W W.heap.size 1 A k (cI (tellK f gs k)) → Calls Try.prog F (#[gI (gt gs k), .slice A k c] ++ caps) W fun e W' => e = .returned (.int .i64 (f (gt gs k) (tellK f gs k))) ∧ Below W.heap.size W W') :
    Calls Try.prog 56 #[.slice Ag ng cg, .func (.func F) #[] caps] w fun e w' => ∃ A c, e = .returned (.slice A ng c) ∧ OwIntS w' w.heap.size w'.heap.size (.slice A ng c) (tellK f gs ng) ∧ Below w.heap.size w w' := by
  have hl : gs.length = ng := by have := hg.1; rw [List.length_map] at this; omega
  have HL := Lib.hid hl
  have HG := Lib.hid hg
  have HS := Lib.hid hS
  clear hg hS hl
  have hmk := fun W => run_make0 (P := Try.prog) Try.underlying23 info_int ng (by omega) (by omega) W
  have hcap : (madeCells (Value.int .i64 0).cells (ng * 1)).size = ng * 1 := madeCells_size _ _
  obtain ⟨cs, hcs⟩ : ∃ cs, madeCells (Value.int .i64 0).cells (ng * 1) = cs := ⟨_, rfl⟩
  rw [hcs] at hmk hcap
  clear hcs
  have HO0 : Hid ((w.alloc (.cells cs 3)).ownsRow w.heap.size 3 1 (.slice (some ⟨w.heap.size, 0, none⟩) 0 ng) 0 (cI [])) := Lib.hid (own_make0 w cs 3 1 ng hcap (by unfold maxLen; omega))
  have HB0 : Hid (Below w.heap.size w (w.alloc (.cells cs 3))) := Lib.hid ((Below.refl _ _).alloc (Nat.le_refl _) _)
  clear hcap
  have c0 : (0 : Int) ≤ (ng : Int) := by omega
  go_enter Try.func56, Try.ntmps56
  go_wp2
  go_loopw [5, 13] (fun o i wr => ∃ k : Nat, k ≤ ng ∧ i = .int .i64 k ∧ Hid (wr.ownsRow w.heap.size 3 1 o k (cI (tellK f gs k))) ∧ Hid (Below w.heap.size w wr)) (fun _ i _ => ng - (intOf i).toNat)
  case atStart => exact ⟨0, Nat.zero_le _, rfl, HO0, HB0⟩
  case round =>
    clear HO0 HB0
    obtain ⟨k, hk, rfl, HO, HB⟩ := hrel
    obtain ⟨A, c, rfl, ho⟩ := own_val HO.out
    have HRD := Lib.hid ho.rd
    clear ho
    by_cases hlt : k < ng
    · obtain ⟨a, hA, hab, hc⟩ := HG.out.2 (by omega)
      have hck0 := hc k (gI (gt gs k)) (by have := HL.out; simp [gt, show k < gs.length by omega])
      have hck := (HB.out.cell (p := a.add k) (by rw [add_block]; exact hab)).trans hck0
      have i0 : (0 : Int) ≤ (k : Int) := by omega
      have i1 : (k : Int) < (ng : Int) := by omega
      clear hc hck0
      subst hA
      go_wp2_with fail
      refine (HS.out wr k A c HB.out hlt HRD.out).mono ?_
      rintro e w2 ⟨rfl, hb⟩
      generalize hfv : f (gt gs k) (tellK f gs k) = fv
      have HE : Hid (tellK f gs (k + 1) = tellK f gs k ++ [fv]) := Lib.hid (by rw [tellK, hfv])
      have HB2 : Hid (Below w.heap.size w w2) := Lib.hid (HB.out.trans (hb.mono HB.out.size))
      have HO2 := Lib.hid (ownsRow_below HO.out hb)
      have HOa := Lib.hid (HO2.out.alloc (.cells #[.int .i64 fv] 3))
      have HBa := Lib.hid (HB2.out.alloc HB2.out.size (.cells #[.int .i64 fv] 3))
      have HRa : Hid (Rd (w2.alloc (.cells #[.int .i64 fv] 3)) (w2.heap.size + 1) 1 (some ⟨w2.heap.size, 0, none⟩) 1 (cI [fv])) := Lib.hid (by
        have := (Ow.new w2 #[.int .i64 fv] 3 1 1 rfl).rd; exact this)
      clear HO HB hb HRD hfv
      go_wp2_with (at_builtin; refine wpList_append_rd rfl (.tmp 17) (.tmp 22) _ rfl w.heap.size 3 _ 1 8 Try.underlying23 info_int rfl (by decide) (.slice A k c) k (cI (tellK f gs k)) rfl HOa.out _ _ 1 1 (cI [fv]) rfl HRa.out (cI_one _) (by unfold maxLen; omega) (by omega) (by have := HBa.out.size; omega) ?_; intro v1 w3 hown hg hat; have HOWN := Lib.hid hown; have HG2 := Lib.hid hg; clear hown hg hat)
      have HO3 : Hid (w3.ownsRow w.heap.size 3 1 v1 (k + 1) (cI (tellK f gs (k + 1)))) := Lib.hid (by
        rw [HE.out, cI_append]; exact HOWN.out)
      have HB3 : Hid (Below w.heap.size w w3) := Lib.hid (below_append HBa.out HG2.out (own_block HOa.out) HBa.out.size)
      clear HOWN HG2 HOa HRa HBa
      go_roundw
      case rel => exact ⟨k + 1, by omega, by go_num, HO3, HB3⟩
      case measure => simp [intOf] <;> omega
    · have hkn : k = ng := by omega
      subst hkn
      have HOF : Hid (OwIntS wr w.heap.size wr.heap.size (.slice A k c) (tellK f gs k)) := Lib.hid (own_done rfl HO.out (by omega))
      clear HO
      go_wp2
      go_ret
      exact ⟨_, _, rfl, HOF.out, HB.out⟩
end Go.Proofs.Ytlagkinamnjnhaa

/- Chapter 8 in the program: what is told of a gate. -/
namespace Go.Proofs.Ytlagkinamnjnhaa
open Go.RowKit
set_option maxRecDepth 100000

theorem ta_input_input (v0 : Value) (W : World) : (Instr.typeAssert (.iface 94 (.agg #[v0])) 62 94 true).run Try.prog W = .ok (.tuple #[.agg #[v0], .bool true]) W := by kernel_rfl
theorem ta_input_const (v0 : Value) (W : World) : (Instr.typeAssert (.iface 94 (.agg #[v0])) 62 97 true).run Try.prog W = .ok (.tuple #[.agg #[.int .i64 0], .bool false]) W := by kernel_rfl
theorem ta_input_linear (v0 : Value) (W : World) : (Instr.typeAssert (.iface 94 (.agg #[v0])) 62 101 true).run Try.prog W = .ok (.tuple #[.agg #[.int .i64 0, .int .i64 0, .int .i64 0], .bool false]) W := by kernel_rfl
theorem ta_input_product (v0 : Value) (W : World) : (Instr.typeAssert (.iface 94 (.agg #[v0])) 62 103 true).run Try.prog W = .ok (.tuple #[.agg #[.int .i64 0, .int .i64 0], .bool false]) W := by kernel_rfl
theorem ta_const_input (v0 : Value) (W : World) : (Instr.typeAssert (.iface 97 (.agg #[v0])) 62 94 true).run Try.prog W = .ok (.tuple #[.agg #[.int .i64 0], .bool false]) W := by kernel_rfl
theorem ta_const_const (v0 : Value) (W : World) : (Instr.typeAssert (.iface 97 (.agg #[v0])) 62 97 true).run Try.prog W = .ok (.tuple #[.agg #[v0], .bool true]) W := by kernel_rfl
theorem ta_const_linear (v0 : Value) (W : World) : (Instr.typeAssert (.iface 97 (.agg #[v0])) 62 101 true).run Try.prog W = .ok (.tuple #[.agg #[.int .i64 0, .int .i64 0, .int .i64 0], .bool false]) W := by kernel_rfl
theorem ta_const_product (v0 : Value) (W : World) : (Instr.typeAssert (.iface 97 (.agg #[v0])) 62 103 true).run Try.prog W = .ok (.tuple #[.agg #[.int .i64 0, .int .i64 0], .bool false]) W := by kernel_rfl
theorem ta_linear_input (v0 v1 v2 : Value) (W : World) : (Instr.typeAssert (.iface 101 (.agg #[v0, v1, v2])) 62 94 true).run Try.prog W = .ok (.tuple #[.agg #[.int .i64 0], .bool false]) W := by kernel_rfl
theorem ta_linear_const (v0 v1 v2 : Value) (W : World) : (Instr.typeAssert (.iface 101 (.agg #[v0, v1, v2])) 62 97 true).run Try.prog W = .ok (.tuple #[.agg #[.int .i64 0], .bool false]) W := by kernel_rfl
theorem ta_linear_linear (v0 v1 v2 : Value) (W : World) : (Instr.typeAssert (.iface 101 (.agg #[v0, v1, v2])) 62 101 true).run Try.prog W = .ok (.tuple #[.agg #[v0, v1, v2], .bool true]) W := by kernel_rfl
theorem ta_linear_product (v0 v1 v2 : Value) (W : World) : (Instr.typeAssert (.iface 101 (.agg #[v0, v1, v2])) 62 103 true).run Try.prog W = .ok (.tuple #[.agg #[.int .i64 0, .int .i64 0], .bool false]) W := by kernel_rfl
theorem ta_product_input (v0 v1 : Value) (W : World) : (Instr.typeAssert (.iface 103 (.agg #[v0, v1])) 62 94 true).run Try.prog W = .ok (.tuple #[.agg #[.int .i64 0], .bool false]) W := by kernel_rfl
theorem ta_product_const (v0 v1 : Value) (W : World) : (Instr.typeAssert (.iface 103 (.agg #[v0, v1])) 62 97 true).run Try.prog W = .ok (.tuple #[.agg #[.int .i64 0], .bool false]) W := by kernel_rfl
theorem ta_product_linear (v0 v1 : Value) (W : World) : (Instr.typeAssert (.iface 103 (.agg #[v0, v1])) 62 101 true).run Try.prog W = .ok (.tuple #[.agg #[.int .i64 0, .int .i64 0, .int .i64 0], .bool false]) W := by kernel_rfl
theorem ta_product_product (v0 v1 : Value) (W : World) : (Instr.typeAssert (.iface 103 (.agg #[v0, v1])) 62 103 true).run Try.prog W = .ok (.tuple #[.agg #[v0, v1], .bool true]) W := by kernel_rfl

set_option maxHeartbeats 8000000 in
theorem i_valueOf (g : Int × Int × Int) (m t : Int) (A3 : Option Addr) (n3 c3 : Nat) (ins : List Int) (A : Option Addr) (n c : Nat) (vs : List Int) (w : World) (h : Rd w w.heap.size 1 A n (cI vs)) (h3 : Rd w w.heap.size 1 A3 n3 (cI ins)) (hm : m = n3) (hg : gateB g t m = true) (ht : t = n) (_hn : n ≤ 16) (hv : ∀ j : Nat, 0 ≤ vs.getD j 0 ∧ vs.getD j 0 ≤ 112) :
    Calls Try.prog 58 #[gI g, .slice A3 n3 c3, .slice A n c] w fun e w' => e = .returned (.int .i64 (valG ins g vs)) ∧ Below w.heap.size w w' := by
  obtain ⟨x, y, u⟩ := g
  have H := Lib.hid h
  have HV := Lib.hid hv
  have H3 := Lib.hid h3
  clear h3
  have hkd := gateB_kind hg
  simp only at hkd
  subst ht
  clear h hg hv
  rcases hkd with ⟨rfl, y0, y1, rfl⟩ | ⟨rfl, y0, y1, rfl⟩ | ⟨hk3, y0, y1, u0, u1⟩
  · obtain ⟨k, rfl⟩ : ∃ k : Nat, y = k := ⟨y.toNat, by omega⟩
    obtain ⟨a3, v, hA3, hab3, hv3, HV3⟩ := H3.out.intAt (k := k) (by omega)
    subst hA3
    have HE : Hid (v = valG ins (0, (k : Int), 0) vs) := Lib.hid (by rw [HV3.out]; simp [valG])
    have HB0 : Hid (Below w.heap.size w (w.alloc (.cells #[.int .i64 k] 94))) := Lib.hid ((Below.refl _ _).alloc (Nat.le_refl _) _)
    have hv4 := (HB0.out.cell (p := a3.add k) (by rw [add_block]; exact hab3)).trans hv3
    have j0 : (k : Int) < (n3 : Int) := by omega
    have i0 : (0 : Int) ≤ (k : Int) := by omega
    simp only [gI]
    have t0 := fun W => ta_input_input (.int .i64 k) W
    go_enter Try.func58, Try.ntmps58
    go_wp2
    go_ret
    exact ⟨ret_i HE.out, HB0.out⟩
  · have HE : Hid (y = valG ins (1, y, 0) vs) := Lib.hid (by simp [valG])
    simp only [gI]
    have t0 := fun W => ta_const_input (.int .i64 y) W
    have t1 := fun W => ta_const_const (.int .i64 y) W
    go_enter Try.func58, Try.ntmps58
    go_wp2
    go_ret
    exact ⟨ret_i HE.out, (Below.refl _ _).alloc (Nat.le_refl _) _⟩
  · obtain ⟨m1, rfl⟩ : ∃ m : Nat, y = m := ⟨y.toNat, by omega⟩
    obtain ⟨m2, rfl⟩ : ∃ m : Nat, u = m := ⟨u.toNat, by omega⟩
    obtain ⟨a, p, hA, hab, hp, HP⟩ := H.out.intAt (k := m1) (by omega)
    obtain ⟨a', q, hA', _, hq, HQ⟩ := H.out.intAt (k := m2) (by omega)
    subst hA
    injection hA' with hA'; subst hA'
    have p0 := (HV.out m1).1
    have p1 := (HV.out m1).2
    have q0 := (HV.out m2).1
    have q1 := (HV.out m2).2
    rw [← HP.out] at p0 p1
    rw [← HQ.out] at q0 q1
    have j0 : (m1 : Int) < (n : Int) := by omega
    have j1 : (m2 : Int) < (n : Int) := by omega
    have i0 : (0 : Int) ≤ (m1 : Int) := by omega
    have i1 : (0 : Int) ≤ (m2 : Int) := by omega
    rcases hk3 with rfl | rfl | rfl
    · have HE : Hid ((p + q % 113) % 113 = valG ins (2, (m1 : Int), (m2 : Int)) vs) := Lib.hid (by rw [HP.out, HQ.out]; simp only [valG]; first | (simp; done) | (simp; omega))
      have s0 : 0 ≤ q % 113 := by omega
      have s1 : q % 113 ≤ 112 := by omega
      simp only [gI]
      have t0 := fun W => ta_linear_input (.int .i64 m1) (.int .i64 m2) (.int .i64 1) W
      have t1 := fun W => ta_linear_const (.int .i64 m1) (.int .i64 m2) (.int .i64 1) W
      have t2 := fun W => ta_linear_linear (.int .i64 m1) (.int .i64 m2) (.int .i64 1) W
      have HB0 : Hid (Below w.heap.size w (w.alloc (.cells #[.int .i64 m1, .int .i64 m2, .int .i64 1] 101))) := Lib.hid ((Below.refl _ _).alloc (Nat.le_refl _) _)
      have HX : Hid (Bx (w.alloc (.cells #[.int .i64 m1, .int .i64 m2, .int .i64 1] 101)) w.heap.size #[.int .i64 m1, .int .i64 m2, .int .i64 1] 101) := Lib.hid (Bx.new _ _ _)
      have hp2 := (HB0.out.cell (p := a.add m1) (by rw [add_block]; exact hab)).trans hp
      have hq2 := (HB0.out.cell (p := a.add m2) (by rw [add_block]; exact hab)).trans hq
      go_enter Try.func58, Try.ntmps58
      go_wp2
      obtain ⟨wo, hwo⟩ : ∃ wo, Hid (w.alloc (.cells #[.int .i64 m1, .int .i64 m2, .int .i64 1] 101) = wo) := ⟨_, Lib.hid rfl⟩
      rw [hwo.out] at hp2 hq2 HB0 HX ⊢
      clear hwo hp hq
      have g0 : wo.cell? ⟨w.heap.size, 0, none⟩ = some (.int .i64 m1) := HX.out.cell 0
      have g1 : wo.cell? ⟨w.heap.size, 1, none⟩ = some (.int .i64 m2) := HX.out.cell 1
      have g2 : wo.cell? ⟨w.heap.size, 2, none⟩ = some (.int .i64 1) := HX.out.cell 2
      go_quiet ((first
        | (go_at_call 67; exact quiet_drewN (i_times q 1 _ q0 q1 (by omega) (by omega)))
        | (go_at_call 65; exact quiet_drewN (i_plus p _ _ p0 p1 s0 s1))))
      go_wp2
      go_ret
      exact ⟨ret_i HE.out, below_drewN HB0.out _⟩
    · have HE : Hid ((p + q * 112 % 113) % 113 = valG ins (3, (m1 : Int), (m2 : Int)) vs) := Lib.hid (by rw [HP.out, HQ.out]; simp only [valG]; first | (simp; done) | (simp; omega))
      have s0 : 0 ≤ q * 112 % 113 := by omega
      have s1 : q * 112 % 113 ≤ 112 := by omega
      simp only [gI]
      have t0 := fun W => ta_linear_input (.int .i64 m1) (.int .i64 m2) (.int .i64 112) W
      have t1 := fun W => ta_linear_const (.int .i64 m1) (.int .i64 m2) (.int .i64 112) W
      have t2 := fun W => ta_linear_linear (.int .i64 m1) (.int .i64 m2) (.int .i64 112) W
      have HB0 : Hid (Below w.heap.size w (w.alloc (.cells #[.int .i64 m1, .int .i64 m2, .int .i64 112] 101))) := Lib.hid ((Below.refl _ _).alloc (Nat.le_refl _) _)
      have HX : Hid (Bx (w.alloc (.cells #[.int .i64 m1, .int .i64 m2, .int .i64 112] 101)) w.heap.size #[.int .i64 m1, .int .i64 m2, .int .i64 112] 101) := Lib.hid (Bx.new _ _ _)
      have hp2 := (HB0.out.cell (p := a.add m1) (by rw [add_block]; exact hab)).trans hp
      have hq2 := (HB0.out.cell (p := a.add m2) (by rw [add_block]; exact hab)).trans hq
      go_enter Try.func58, Try.ntmps58
      go_wp2
      obtain ⟨wo, hwo⟩ : ∃ wo, Hid (w.alloc (.cells #[.int .i64 m1, .int .i64 m2, .int .i64 112] 101) = wo) := ⟨_, Lib.hid rfl⟩
      rw [hwo.out] at hp2 hq2 HB0 HX ⊢
      clear hwo hp hq
      have g0 : wo.cell? ⟨w.heap.size, 0, none⟩ = some (.int .i64 m1) := HX.out.cell 0
      have g1 : wo.cell? ⟨w.heap.size, 1, none⟩ = some (.int .i64 m2) := HX.out.cell 1
      have g2 : wo.cell? ⟨w.heap.size, 2, none⟩ = some (.int .i64 112) := HX.out.cell 2
      go_quiet ((first
        | (go_at_call 67; exact quiet_drewN (i_times q 112 _ q0 q1 (by omega) (by omega)))
        | (go_at_call 65; exact quiet_drewN (i_plus p _ _ p0 p1 s0 s1))))
      go_wp2
      go_ret
      exact ⟨ret_i HE.out, below_drewN HB0.out _⟩
    · have HE : Hid (p * q % 113 = valG ins (4, (m1 : Int), (m2 : Int)) vs) := Lib.hid (by rw [HP.out, HQ.out]; simp [valG])
      simp only [gI]
      have t0 := fun W => ta_product_input (.int .i64 m1) (.int .i64 m2) W
      have t1 := fun W => ta_product_const (.int .i64 m1) (.int .i64 m2) W
      have t2 := fun W => ta_product_linear (.int .i64 m1) (.int .i64 m2) W
      have t3 := fun W => ta_product_product (.int .i64 m1) (.int .i64 m2) W
      have HB0 : Hid (Below w.heap.size w (w.alloc (.cells #[.int .i64 m1, .int .i64 m2] 103))) := Lib.hid ((Below.refl _ _).alloc (Nat.le_refl _) _)
      have HX : Hid (Bx (w.alloc (.cells #[.int .i64 m1, .int .i64 m2] 103)) w.heap.size #[.int .i64 m1, .int .i64 m2] 103) := Lib.hid (Bx.new _ _ _)
      have hp2 := (HB0.out.cell (p := a.add m1) (by rw [add_block]; exact hab)).trans hp
      have hq2 := (HB0.out.cell (p := a.add m2) (by rw [add_block]; exact hab)).trans hq
      go_enter Try.func58, Try.ntmps58
      go_wp2
      obtain ⟨wo, hwo⟩ : ∃ wo, Hid (w.alloc (.cells #[.int .i64 m1, .int .i64 m2] 103) = wo) := ⟨_, Lib.hid rfl⟩
      rw [hwo.out] at hp2 hq2 HB0 HX ⊢
      clear hwo hp hq
      have g0 : wo.cell? ⟨w.heap.size, 0, none⟩ = some (.int .i64 m1) := HX.out.cell 0
      have g1 : wo.cell? ⟨w.heap.size, 1, none⟩ = some (.int .i64 m2) := HX.out.cell 1
      go_quiet ((first
        | (go_at_call 67; exact quiet_drewN (i_times p q _ p0 p1 q0 q1))))
      go_wp2
      go_ret
      exact ⟨ret_i HE.out, below_drewN HB0.out _⟩
end Go.Proofs.Ytlagkinamnjnhaa

/- Chapter 8 in the program: at the outputs; the greatest of a list; the closure over inputs. -/
namespace Go.Proofs.Ytlagkinamnjnhaa
open Go.RowKit
set_option maxRecDepth 100000

theorem out_step (os v : List Int) {k n : Nat} (hk : k < n) : (outK os v k ++ List.replicate (n - k) 0).set k (v.getD (os.getD k 0).toNat 0) = outK os v (k + 1) ++ List.replicate (n - (k + 1)) 0 := by
  have hl := outK_length os v k
  rw [List.set_append_right _ _ (by omega), hl, Nat.sub_self, show n - k = (n - (k + 1)) + 1 by omega, List.replicate_succ, List.set_cons_zero, outK, List.append_assoc, List.singleton_append]

set_option maxHeartbeats 1000000 in
theorem i_values1 (g : Int × Int × Int) (m t : Int) (A3 : Option Addr) (n3 c3 : Nat) (ins : List Int) (A : Option Addr) (n c b : Nat) (vs : List Int) (w : World) (h : Rd w w.heap.size 1 A n (cI vs)) (h3 : Rd w w.heap.size 1 A3 n3 (cI ins)) (hm : m = n3) (hg : gateB g t m = true) (ht : t = n) (hn : n ≤ 16) (hv : ∀ j : Nat, 0 ≤ vs.getD j 0 ∧ vs.getD j 0 ≤ 112) (hb : w.cell? ⟨b, 0, none⟩ = some (.slice A3 n3 c3)) :
    Calls Try.prog 57 #[gI g, .slice A n c, .pointer (some ⟨b, 0, none⟩)] w fun e w' => e = .returned (.int .i64 (valG ins g vs)) ∧ Below w.heap.size w w' := by
  have HC := Lib.hid (i_valueOf g m t A3 n3 c3 ins A n c vs w h h3 hm hg ht hn hv)
  generalize gI g = gv at HC ⊢
  clear h h3 hm hg ht hv
  go_enter Try.func57, Try.ntmps57
  go_wp2_with fail
  refine HC.out.mono ?_
  rintro e w2 ⟨rfl, hbl⟩
  go_wp2
  go_ret
  exact ⟨rfl, hbl⟩
end Go.Proofs.Ytlagkinamnjnhaa

/- Chapter 8 in the program, as the laws meet it. -/
namespace Go.Proofs.Ytlagkinamnjnhaa
open Go.RowKit
set_option maxRecDepth 100000

theorem eg_values1 (args : Array Value) (W : World) : (callFunc 57 args).run Try.prog W = .ok (.enter 57 args) W := by kernel_rfl
theorem OwGI.rdv {w : World} {lo hi : Nat} {v : Value} {d : List (Int × Int × Int)} (h : OwGI w lo hi v d) : ∃ A n c, v = .slice A n c ∧ n = d.length ∧ Rd w hi 1 A n (d.map gI) := by
  obtain ⟨A, n, c, rfl, r⟩ := h
  exact ⟨A, n, c, rfl, by have := r.1; rw [List.length_map] at this; omega, r.rd⟩
/-- a box of three cells and one of one cell, over a call that only makes -/
theorem upd31 {w0 W w' : World} {b b' e e' : Nat} {x y z u : Value} (hb : Below b w0 W) (hx : Bx W b #[x, y, z] e) (hy : Bx W b' #[u] e') (h : Below W.heap.size W w') :
    Below b w0 w' ∧ Bx w' b #[x, y, z] e ∧ Bx w' b' #[u] e' ∧ w'.cell? ⟨b, 0, none⟩ = some x ∧ w'.cell? ⟨b, 1, none⟩ = some y ∧ w'.cell? ⟨b, 2, none⟩ = some z ∧ w'.cell? ⟨b', 0, none⟩ = some u :=
  have hx2 := hx.below h hx.lt
  have hy2 := hy.below h hy.lt
  ⟨hb.trans (h.mono (Nat.le_of_lt hx.lt)), hx2, hy2, hx2.cell 0, hx2.cell 1, hx2.cell 2, hy2.cell 0⟩

set_option maxHeartbeats 8000000 in
theorem X_i_CircuitValues (v v' : Value) (d : Int × List (Int × Int × Int) × List Int) (ins : List Int) (w : World) (h : RdCircuit w w.heap.size v d) (h' : RdIntS w w.heap.size v' ins) (hs : szCircuit d ≤ 1048576) (hs' : szIntS ins ≤ 1048576) :
    Calls Try.prog 40 #[v, v'] w fun e w' => ∃ g, e = .returned (.tuple #[g, .bool (fitsB d ins)]) ∧ OwIntS w' w.heap.size w'.heap.size g (R_CircuitValues_0 d ins) ∧ Below w.heap.size w w' := by
  obtain ⟨A1, n1, c1, A2, n2, c2, rfl, h1, h2⟩ := h
  obtain ⟨A3, n3, c3, rfl, _, h3⟩ := h'
  have m1 : n1 ≤ 1048576 := by have := szC1 hs; have := h1.n.2; omega
  have m2 : n2 ≤ 1048576 := by have := szC2 hs; have := h2.n.2; omega
  have m3 : n3 ≤ 1048576 := by have := h3.len; unfold szIntS at hs'; omega
  have l1 := Lib.hid h1.n.2
  have l3 := Lib.hid h3.len
  have H1 := Lib.hid h1.n.1
  have H2 := Lib.hid h2.n.1
  have H3 := Lib.hid h3
  clear h1 h2 h3 hs hs'
  obtain ⟨z, d1, d2⟩ := d
  obtain ⟨W0, hW0⟩ : ∃ W, Hid ((w.alloc (.cells #[.int .i64 z, .slice A1 n1 c1, .slice A2 n2 c2] 32)).alloc (.cells #[.slice A3 n3 c3] 23) = W) := ⟨_, Lib.hid rfl⟩
  have HX0 : Hid (Bx W0 w.heap.size #[.int .i64 z, .slice A1 n1 c1, .slice A2 n2 c2] 32) := Lib.hid (by rw [← hW0.out]; exact (Bx.new _ _ _).alloc _)
  have HY0 : Hid (Bx W0 (w.heap.size + 1) #[.slice A3 n3 c3] 23) := Lib.hid (by rw [← hW0.out]; have := Bx.new (w.alloc (.cells #[.int .i64 z, .slice A1 n1 c1, .slice A2 n2 c2] 32)) #[.slice A3 n3 c3] 23; rw [World.size_alloc] at this; exact this)
  have HB0 : Hid (Below w.heap.size w W0) := Lib.hid (by rw [← hW0.out]; exact ((Below.refl _ _).alloc (Nat.le_refl _) _).alloc (by simp) _)
  have no : ∀ {w' : World}, fitsB (z, d1, d2) ins = false → Below w.heap.size w w' → ∃ g, Ending.returned (.tuple #[.slice none 0 0, .bool false]) = .returned (.tuple #[g, .bool (fitsB (z, d1, d2) ins)]) ∧ OwIntS w' w.heap.size w'.heap.size g (R_CircuitValues_0 (z, d1, d2) ins) ∧ Below w.heap.size w w' :=
    fun h hb => ⟨.slice none 0 0, by rw [h], by rw [R_CircuitValues_0, h]; exact OwIntS.nil_ _ _ _, hb⟩
  go_enter Try.func40, Try.ntmps40
  go_wp2_with fail
  rw [hW0.out]
  clear hW0
  refine (i_gatesOf A1 n1 c1 A2 n2 c2 z d1 d2 _ ((H1.out.below HB0.out).more HB0.out.size) ((H2.out.below HB0.out).more HB0.out.size) m1 m2).mono ?_
  rintro e w2 ⟨gv, rfl, hno, hyes, hb⟩
  have HX1 := Lib.hid (HX0.out.below hb HX0.out.lt)
  have HY1 := Lib.hid (HY0.out.below hb HY0.out.lt)
  have HB1 : Hid (Below w.heap.size w w2) := Lib.hid (HB0.out.trans (hb.mono HB0.out.size))
  have hz0 := HY1.out.lt
  clear hb
  cases eb : circB (z, d1, d2)
  · have HF : Hid (fitsB (z, d1, d2) ins = false) := Lib.hid (by simp [fitsB, eb])
    clear hno hyes
    go_wp2
    go_ret2
    exact no HF.out HB1.out
  have HO1 := Lib.hid ((hyes.out eb).rdv)
  have HEB := Lib.hid eb
  clear hno hyes eb
  have b0 : w2.cell? ⟨w.heap.size, 0, none⟩ = some (.int .i64 z) := HX1.out.cell 0
  have b1 : w2.cell? ⟨w.heap.size, 1, none⟩ = some (.slice A1 n1 c1) := HX1.out.cell 1
  have b2 : w2.cell? ⟨w.heap.size, 2, none⟩ = some (.slice A2 n2 c2) := HX1.out.cell 2
  have b3 : w2.cell? ⟨w.heap.size + 1, 0, none⟩ = some (.slice A3 n3 c3) := HY1.out.cell 0
  go_wp2_with fail
  refine (i_insFit A1 n1 c1 A2 n2 c2 A3 n3 c3 z ins _ ((H3.out.below HB1.out).more HB1.out.size) m3).mono ?_
  rintro e w3 ⟨rfl, hb⟩
  have HX2 := Lib.hid (HX1.out.below hb HX1.out.lt)
  have HY2 := Lib.hid (HY1.out.below hb HY1.out.lt)
  have HB2 : Hid (Below w.heap.size w w3) := Lib.hid (HB1.out.trans (hb.mono HB1.out.size))
  obtain ⟨Ag, ng, cg, rfl, hlg, hrg⟩ := HO1.out
  have HRG := Lib.hid ((hrg.below hb).more hb.size)
  have HLG := Lib.hid hlg
  have hz1 := HY2.out.lt
  clear hb b0 b1 b2 b3 HX1 HY1 HX0 HY0 HO1 hlg hrg
  cases ei : (decide ((ins.length : Int) = z) && numsB ins)
  · have HF : Hid (fitsB (z, d1, d2) ins = false) := Lib.hid (by simp only [fitsB, ei, Bool.and_false])
    go_wp2
    go_ret2
    exact no HF.out HB2.out
  have HF : Hid (fitsB (z, d1, d2) ins = true) := Lib.hid (by simp only [fitsB, ei, HEB.out, Bool.and_true])
  obtain ⟨f1, f2, f3⟩ := fits_iff HF.out
  obtain ⟨e0, e1, e2, e3, e4⟩ := circB_iff f1
  simp only at e0 e1 e2 e3 e4 f2
  have q1 : ng ≤ 16 := by have := HLG.out; omega
  have HG : Hid (gatesK d1 z ng = true) := Lib.hid (by rw [HLG.out]; exact e3)
  have HI := Lib.hid f3
  have HZ : Hid (z = n3) := Lib.hid (by have := l3.out; omega)
  have HR : Hid (R_CircuitValues_0 (z, d1, d2) ins = tellK (valG ins) d1 ng) := Lib.hid (by simp [R_CircuitValues_0, HF.out, HLG.out])
  have b3 : w3.cell? ⟨w.heap.size + 1, 0, none⟩ = some (.slice A3 n3 c3) := HY2.out.cell 0
  clear e0 e1 e2 e3 e4 f1 f2 f3 ei
  go_wp2_with fail
  refine (i_gateByGate 57 #[.pointer (some ⟨w.heap.size + 1, 0, none⟩)] (valG ins) Ag ng cg d1 w3 HRG.out q1 eg_values1 ?_).mono ?_
  · intro W k A c hbw hk hr
    exact i_values1 (gt d1 k) z k A3 n3 c3 ins A k c (w.heap.size + 1) (tellK (valG ins) d1 k) W hr ((H3.out.below (HB2.out.trans (hbw.mono HB2.out.size))).more (Nat.le_trans HB2.out.size hbw.size)) HZ.out (gatesK_at HG.out hk) rfl (by omega) (val_bd HG.out HI.out k (by omega)) ((hbw.cell (p := ⟨w.heap.size + 1, 0, none⟩) HY2.out.lt).trans (HY2.out.cell 0))
  rintro e w4 ⟨A, c, rfl, ho, hb⟩
  have HO := Lib.hid (ho.widen (lo' := w.heap.size) HB2.out.size (Nat.le_refl _))
  have HB3 : Hid (Below w.heap.size w w4) := Lib.hid (HB2.out.trans (hb.mono HB2.out.size))
  clear ho hb b3
  go_wp2
  go_ret2
  exact ⟨_, ret_vb HF.out.symm, by rw [HR.out]; exact HO.out, HB3.out⟩

end Go.Proofs.Ytlagkinamnjnhaa

/- Where an owned row lies. -/
namespace Go.Proofs.Ytlagkinamnjnhaa
open Go.RowKit
set_option maxRecDepth 100000
theorem own_ge {w : World} {base e size n B : Nat} {v : Value} {xs : List Value} (h : w.ownsRow base e size v n xs) (hv : v.ownBlock = some B) : base ≤ B := by
  rcases h.2 with ⟨rfl, _⟩ | ⟨g, _, _, rfl, hg, _⟩
  · simp [Value.ownBlock] at hv
  · simp [Value.ownBlock] at hv; omega
theorem run_make0' {P : Program} {t e : TypeId} {z : Value} {bytes size : Nat} (ht : P.underlying t = some (.slice e)) (hi : (P.info? e).map (fun i => (i.zero, i.size, i.bytes)) = some (some z, size, bytes))
    (n : Nat) (hb : bytes * n ≤ 281474976710656) (hn : n ≤ 9223372036854775807) (w : World) :
    (Instr.makeSlice t (.int .i64 0) (.int .i64 (n : Int))).run P w = .ok (.slice (some ⟨w.heap.size, 0, none⟩) 0 n) (w.alloc (.cells (madeCells z.cells (n * size)) e)) := by
  obtain ⟨i, hi, hz0, hz1, hz2⟩ := info_parts hi
  have hb' : (i.bytes : Int) * (n : Int) ≤ 281474976710656 := by
    have h : ((i.bytes * n : Nat) : Int) ≤ 281474976710656 := by rw [hz2]; omega
    rwa [Int.natCast_mul] at h
  have hr := run_make (P := P) w t e i z ht hi hz0 .i64 .i64 0 n (by omega) (by omega) hb' (by omega)
  simp only [Int.toNat_natCast, hz1] at hr
  exact hr
theorem own_make0' (w : World) (cs : Array Value) (e size n base : Nat) (hs : cs.size = n * size) (hn : n ≤ maxLen) (hb : base ≤ w.heap.size) : (w.alloc (.cells cs e)).ownsRow base e size (.slice (some ⟨w.heap.size, 0, none⟩) 0 n) 0 [] :=
  ⟨by simp, .inr ⟨w.heap.size, n, cs, rfl, hb, heap_alloc_new _ _, Nat.zero_le _, hn, hs, by simp⟩⟩
theorem own_wide {w : World} {base base' e size n : Nat} {v : Value} {xs : List Value} (h : w.ownsRow base e size v n xs) (hb : base' ≤ base) : w.ownsRow base' e size v n xs := by
  refine ⟨h.1, ?_⟩
  rcases h.2 with h0 | ⟨g, cap, cur, rfl, hg, r⟩
  · exact .inl h0
  · exact .inr ⟨g, cap, cur, rfl, by omega, r⟩
theorem madeCells_size' (z : Array Value) (n : Nat) : (madeCells z n).size = n := by simp [madeCells]
theorem cI_app (a b : List Int) : cI (a ++ b) = cI a ++ cI b := by simp [cI]
end Go.Proofs.Ytlagkinamnjnhaa

/- Chapter 16: slices.Concat over lists of ints, as the program calls it. -/
namespace Go.Proofs.Ytlagkinamnjnhaa
open Go.RowKit
set_option maxRecDepth 100000

theorem own_cut0 {w : World} {base e g cap : Nat} {cs : Array Value} (h : w.heap[g]? = some (.cells cs e (0, 0))) (hb : base ≤ g) (hc : cap ≤ maxLen) (hs : cs.size = cap * 1) : w.ownsRow base e 1 (.slice (some ⟨g, 0, none⟩) 0 cap) 0 [] :=
  ⟨by simp, .inr ⟨g, cap, cs, rfl, hb, h, Nat.zero_le _, hc, hs, by simp⟩⟩
set_option maxHeartbeats 4000000 in
theorem i_GrowNil (n : Nat) (w : World) (hn : n ≤ 8388608) :
    Calls Try.prog 59 #[.slice none 0 0, .int .i64 n] w fun e w' => ∃ v, e = .returned v ∧ w'.ownsRow w.heap.size 3 1 v 0 [] ∧ Below w.heap.size w w' := by
  obtain ⟨i, hi, hz0, hz1, hz2⟩ := info_parts info_int
  by_cases h0 : n = 0
  · subst h0
    go_enter Try.func59, Try.ntmps59
    go_wp2
    go_ret
    exact ⟨_, rfl, ⟨by simp, .inl ⟨rfl, rfl⟩⟩, Below.refl _ _⟩
  · have n0 : 0 < n := by omega
    have n1 : ¬ (n : Int) < 0 := by omega
    have n2 : (0 : Int) < (n : Int) := by omega
    have hrun := fun ty => Lib.run_append_nil_zeros (P := Try.prog) w 23 3 ty 3 i (.int .i64 0) .i64 .i64 Try.underlying23 Try.underlying3 hi hz0 n n0 (by rw [hz1]; decide) (by omega) (by rw [hz2]; omega)
    obtain ⟨cap, hcap⟩ : ∃ cap, Hid (grownCap w n 0 3 = cap) := ⟨_, Lib.hid rfl⟩
    have hge : n ≤ cap := by rw [← hcap.out]; exact grownCap_ge _ _ _ _
    have hle : cap ≤ maxLen := by rw [← hcap.out]; exact grownCap_le_maxLen _ _ _ _ (by unfold maxLen; omega)
    rw [hcap.out] at hrun
    obtain ⟨cs, hcs⟩ : ∃ cs, Hid ((Builtin.zeroCells (Value.int .i64 0).cells n ++ Builtin.zeroCells (Value.int .i64 0).cells (cap - n)) = cs) := ⟨_, Lib.hid rfl⟩
    have hsz : cs.size = cap * 1 := by rw [← hcs.out]; simp [Builtin.zeroCells, Value.cells]; omega
    rw [hcs.out] at hrun
    have HR := Lib.hid hrun
    have HLE := Lib.hid hle
    have HSZ := Lib.hid hsz
    clear hrun hle hsz hcs hcap h0
    unfold maxLen at HLE
    have c63 : (cap : Int) ≤ 9223372036854775807 := by have := HLE.out; omega
    go_enter Try.func59, Try.ntmps59
    go_wp2_with (at_builtin
                 refine Lib.wpList_append_run _ rfl _ _ _ _ rfl _ _ rfl rfl _ _ (HR.out _) ?_)
    go_ret
    refine ⟨_, rfl, own_cut0 (cs := cs) (heap_alloc_new _ _) (Nat.le_refl _) (by have := HLE.out; unfold maxLen; omega) HSZ.out, ?_⟩
    exact (Below.drew (Below.refl _ _)).alloc (Nat.le_refl _) _

theorem flat_take (d : List (List Int)) (k : Nat) (h : k < d.length) : (d.take (k + 1)).flatten = (d.take k).flatten ++ d.getD k [] := by
  rw [List.take_succ_eq_append_getElem h, List.flatten_append]; simp [h]
theorem flat_len (d : List (List Int)) (k : Nat) : ((d.take k).flatten).length ≤ d.flatten.length := by
  have : d.flatten = (d.take k).flatten ++ (d.drop k).flatten := by rw [← List.flatten_append, List.take_append_drop]
  rw [this, List.length_append]; omega
set_option maxHeartbeats 8000000 in
theorem i_Concat (A : Option Addr) (m c : Nat) (vs : List Value) (d : List (List Int)) (w : World) (h : RdR w w.heap.size A m vs d) (hm : m ≤ 3) (hT : d.flatten.length ≤ 8388608) :
    Calls Try.prog 41 #[.slice A m c] w fun e w' => ∃ A' c', e = .returned (.slice A' d.flatten.length c') ∧ Ow w' w.heap.size w'.heap.size 3 1 A' d.flatten.length c' (cI d.flatten) ∧ Below w.heap.size w w' := by
  have H := Lib.hid h
  have HD : Hid (d.length = m) := Lib.hid h.2.1
  have HT := Lib.hid hT
  clear h hT
  go_enter Try.func41, Try.ntmps41
  go_wp2
  go_loop [3, 11] (fun s i => ∃ k t : Nat, k ≤ m ∧ s = .int .i64 t ∧ i = .int .i64 k ∧ t ≤ 8388608 ∧ Hid (t = ((d.take k).flatten).length)) (fun _ i => m - (intOf i).toNat)
  case atStart => exact ⟨0, 0, Nat.zero_le _, rfl, rfl, by omega, Lib.hid rfl⟩
  case round =>
    obtain ⟨k, t, hk, rfl, rfl, t1, HS⟩ := hrel
    by_cases hlt : k < m
    · obtain ⟨a, Ai, ni, ci, rfl, hab, hcell, hrd, hni, hli⟩ := H.out.row hlt
      have i0 : (0 : Int) ≤ (k : Int) := by omega
      have i1 : (k : Int) < (m : Int) := by omega
      have ht2 : t + ni = ((d.take (k + 1)).flatten).length := by rw [flat_take d k (by have := HD.out; omega), List.length_append, ← HS.out, hli]
      have hb := flat_len d (k + 1)
      have ht3 : t + ni ≤ 8388608 := by have := HT.out; omega
      have HS2 := Lib.hid ht2
      have e1 : ¬ ((t : Int) + (ni : Int)) < 0 := by omega
      clear HS hrd hli ht2 hb
      go_wp2
      go_round
      case rel => exact ⟨k + 1, t + ni, by omega, by go_num, by go_num, ht3, HS2⟩
      case measure => simp [intOf] <;> omega
    · go_wp2_with fail
      refine (i_GrowNil t w t1).mono ?_
      rintro e w1 ⟨v1, rfl, ho, hb⟩
      have HO := Lib.hid ho
      have HB := Lib.hid hb
      clear ho hb
      go_wp2
      go_loopw [6, 27] (fun s i wr => ∃ (k t : Nat) (tv : Value), k ≤ m ∧ tv = s ∧ i = .int .i64 k ∧ t ≤ 8388608 ∧ Hid (t = ((d.take k).flatten).length) ∧ Hid (wr.ownsRow w.heap.size 3 1 tv t (cI ((d.take k).flatten))) ∧ Hid (Below w.heap.size w wr)) (fun _ i _ => m - (intOf i).toNat)
      case atStart => exact ⟨0, 0, _, Nat.zero_le _, rfl, rfl, by omega, Lib.hid rfl, HO, HB⟩
      case round =>
        clear HO HB HS
        obtain ⟨k, t, tv, hk, rfl, rfl, t1, HS, HO, HB⟩ := hrel
        by_cases hlt : k < m
        · obtain ⟨a, Ai, ni, ci, rfl, hab, hcell, hrd, hni, hli⟩ := H.out.row hlt
          have hc2 := (HB.out.cell (p := a.add k) (by rw [add_block]; exact hab)).trans hcell
          have i0 : (0 : Int) ≤ (k : Int) := by omega
          have i1 : (k : Int) < (m : Int) := by omega
          have ht2 : t + ni = ((d.take (k + 1)).flatten).length := by rw [flat_take d k (by have := HD.out; omega), List.length_append, ← HS.out, hli]
          have hb := flat_len d (k + 1)
          have ht3 : t + ni ≤ 8388608 := by have := HT.out; omega
          have HS2 := Lib.hid ht2
          have HFT := Lib.hid (flat_take d k (by have := HD.out; omega))
          have HRI : Hid (Rd wr w.heap.size 1 Ai ni (cI (d.getD k []))) := Lib.hid (by obtain ⟨A', n', c', e, _, r⟩ := hrd; injection e with e1 e2 e3; subst e1 e2 e3; exact r.below HB.out)
          clear HS hrd hli ht2 hb hcell
          go_wp2_with (at_builtin
                       refine wpList_append_rd rfl (.tmp 31) (.tmp 32) _ rfl w.heap.size 3 _ 1 8 Try.underlying23 info_int rfl (by decide) tv t (cI ((d.take k).flatten)) rfl HO.out _ _ ni _ (cI (d.getD k [])) rfl HRI.out (cI_one _) (by unfold maxLen; omega) (by omega) HB.out.size ?_
                       intro v5 w5 hown hgr hat
                       have HO5 : Hid (w5.ownsRow w.heap.size 3 1 v5 (t + ni) (cI ((d.take (k + 1)).flatten))) := Lib.hid (by rw [HFT.out, cI_app]; exact hown)
                       have HB5 : Hid (Below w.heap.size w w5) := Lib.hid (below_grown HB.out hgr (fun g e => own_ge HO.out e) HB.out.size)
                       clear hown hgr hat HO HB HRI hc2)
          go_roundw
          case rel => exact ⟨k + 1, t + ni, v5, by omega, rfl, by go_num, ht3, HS2, HO5, HB5⟩
          case measure => simp [intOf] <;> omega
        · have hkm : k = d.length := by have := HD.out; omega
          have HF : Hid (t = d.flatten.length) := Lib.hid (by rw [HS.out, hkm, List.take_length])
          have HO2 : Hid (wr.ownsRow w.heap.size 3 1 tv d.flatten.length (cI d.flatten)) := Lib.hid (by have := HO.out; rw [hkm, List.take_length, HF.out] at this; exact this)
          clear HS HO hkm HF
          obtain ⟨A5, c5, hv, ho⟩ := Ow.of_own HO2.out
          subst hv
          have HO3 := Lib.hid ho
          clear ho HO2
          go_wp2
          go_ret
          exact ⟨A5, c5, rfl, HO3.out, HB.out⟩
end Go.Proofs.Ytlagkinamnjnhaa

/- Chapter 18: RowsWitness of both sides. Made by tools/gen18/a.py. -/
namespace Go.Proofs.Ytlagkinamnjnhaa
open Go.RowKit
set_option maxRecDepth 100000

def witL (d : Int × List (Int × Int × Int) × List Int) (ins : List Int) : List Int := 1 :: (ins ++ R_CircuitValues_0 d ins)
def R_RowsWitness_1 (d : Int × List (Int × Int × Int) × List Int) (ins : List Int) : Bool := fitsB d ins
def R_RowsWitness_0 (d : Int × List (Int × Int × Int) × List Int) (ins : List Int) : List Int := if fitsB d ins = true then witL d ins else []
theorem rowsWit_no {d : Int × List (Int × Int × Int) × List Int} {ins : List Int} (h : fitsB d ins = false) : Hid (R_RowsWitness_1 d ins = false ∧ R_RowsWitness_0 d ins = []) := Lib.hid ⟨h, by unfold R_RowsWitness_0; rw [h]; rfl⟩
theorem OwIntS.grown1 {w w' : World} {lo hi B : Nat} {v : Value} {x : List Int} (h : OwIntS w lo hi v x) (hz : hi ≤ w.heap.size) (hg : w.grownBy w' (some B)) (hB : B < lo ∨ hi ≤ B) : OwIntS w' lo hi v x := by
  obtain ⟨hs, A, n, c, rfl, r⟩ := h
  refine ⟨hs, A, n, c, rfl, r.1, r.2.1, ?_⟩
  rcases r.2.2 with h0 | ⟨g, cs, rfl, a, b, hb, ht⟩
  · exact .inl h0
  · exact .inr ⟨g, cs, rfl, a, b, (hg.block g (by omega) (by intro e; injection e with e; omega)).trans hb, ht⟩
theorem Bx.grown1 {w w' : World} {b e : Nat} {cs : Array Value} {row : Option Nat} (h : Bx w b cs e) (hg : w.grownBy w' row) (hn : row ≠ some b) : Bx w' b cs e := (hg.block b h.lt (fun e => hn e.symm)).trans h
theorem own_lit1 {w : World} {base B : Nat} {v : Value} (h : Bx w B #[v] 3) (hb : base ≤ B) : w.ownsRow base 3 1 (.slice (some ⟨B, 0, none⟩) 1 1) 1 [v] :=
  ⟨rfl, .inr ⟨B, 1, #[v], rfl, hb, h, Nat.le_refl _, by unfold maxLen; omega, rfl, rfl⟩⟩
theorem own_fin3 {w1 : World} {B n : Nat} {v : Value} {ys : List Int} (h : w1.ownsRow B 3 1 v n (cI ys)) (hs : n ≤ 1048576) : OwIntS w1 B w1.heap.size v ys := by
  obtain ⟨A, c, rfl, ho⟩ := Ow.of_own h
  exact ⟨by have := ho.len; omega, A, _, c, rfl, ho⟩
theorem own_apart3 {w : World} {B e t n s g : Nat} {v : Value} {xs : List Value} {cs : Array Value} (h : w.ownsRow B e s v n xs) (hg : Bx w g cs t) (hte : e ≠ t := by decide) : v.ownBlock ≠ some g := by
  intro hv
  rcases h.2 with ⟨rfl, h0⟩ | ⟨g', cap, cur, rfl, _, hh, _⟩
  · simp [Value.ownBlock] at hv
  · simp only [Value.ownBlock, Option.some.injEq] at hv
    subst hv
    have hg2 : w.heap[g']? = some (.cells cs t (0, 0)) := hg
    rw [hh] at hg2
    injection hg2 with hg2; injection hg2 with _ ht _
    exact hte ht
theorem lit_bx {w : World} {B e : Nat} {cs : Array Value} (h : Bx w B cs e) : Rd w (B + 1) 1 (some ⟨B, 0, none⟩) cs.size cs.toList :=
  ⟨by simp, fun _ => ⟨_, rfl, Nat.lt_succ_self _, fun j u hu => by rw [add_zero_head, h.cell]; simpa using hu⟩⟩
theorem OwIntS.rd8 {w : World} {lo hi n c : Nat} {A : Option Addr} {d : List Int} (h : OwIntS w lo hi (.slice A n c) d) : Rd w hi 1 A n (cI d) := by
  obtain ⟨_, A1, n1, c1, e, r⟩ := h
  injection e with e1 e2 e3; subst e1; subst e2; subst e3
  exact r.rd
set_option maxHeartbeats 8000000 in
theorem X_s_RowsWitness (v v' : Value) (d : Int × List (Int × Int × Int) × List Int) (ins : List Int) (w : World) (h : RdCircuit w w.heap.size v d) (h' : RdIntS w w.heap.size v' ins) (hs : szCircuit d ≤ 1048576) (hs' : szIntS ins ≤ 1048576) :
    Calls Try.prog 16 #[v, v'] w fun e w' => ∃ g, e = .returned (.tuple #[g, .bool (R_RowsWitness_1 d ins)]) ∧ OwIntS w' w.heap.size w'.heap.size g (R_RowsWitness_0 d ins) ∧ Below w.heap.size w w' := by
  obtain ⟨A1, n1, c1, A2, n2, c2, rfl, h1, h2⟩ := h
  obtain ⟨A3, n3, c3, rfl, _, h3⟩ := h'
  have m1 : n1 ≤ 1048576 := by have := szC1 hs; have := h1.n.2; omega
  have m2 : n2 ≤ 1048576 := by have := szC2 hs; have := h2.n.2; omega
  have m3 : n3 ≤ 1048576 := by have := h3.len; unfold szIntS at hs'; omega
  have l1 := Lib.hid h1.n.2
  have l3 := Lib.hid h3.len
  have H1 := Lib.hid h1.n.1
  have H2 := Lib.hid h2.n.1
  have H3 := Lib.hid h3
  clear h1 h2 h3 hs hs'
  obtain ⟨z, d1, d2⟩ := d
  have HX0 : Hid (Bx (w.alloc (.cells #[.int .i64 z, .slice A1 n1 c1, .slice A2 n2 c2] 32)) w.heap.size #[.int .i64 z, .slice A1 n1 c1, .slice A2 n2 c2] 32) := Lib.hid (Bx.new _ _ _)
  have HB0 : Hid (Below w.heap.size w (w.alloc (.cells #[.int .i64 z, .slice A1 n1 c1, .slice A2 n2 c2] 32))) := Lib.hid ((Below.refl _ _).alloc (Nat.le_refl _) _)
  go_enter Try.func16, Try.ntmps16
  go_wp2_with fail
  refine (s_l8Fits A1 n1 c1 A2 n2 c2 A3 n3 c3 z d1 d2 ins _ ((H1.out.below HB0.out).more (by simp)) ((H2.out.below HB0.out).more (by simp)) ((H3.out.below HB0.out).more (by simp)) m1 m2 m3).mono ?_
  rintro e w2 ⟨rfl, hb⟩
  have HX_c := Lib.hid (HX0.out.below hb HX0.out.lt)
  have HB : Hid (Below w.heap.size w w2) := Lib.hid (HB0.out.trans (hb.mono HB0.out.size))
  clear hb HB0 HX0
  cases ef : fitsB (z, d1, d2) ins
  · have HF := rowsWit_no ef
    go_wp2
    go_ret2
    exact ⟨_, ret_vb ef.symm, by rw [HF.out.2]; exact OwIntS.nil_ _ _ _, HB.out⟩
  have hR1 : R_RowsWitness_1 (z, d1, d2) ins = true := ef
  have HR1 := Lib.hid hR1
  obtain ⟨f1, f2, f3⟩ := fits_iff ef
  obtain ⟨c0, c1', c2', c3', c4'⟩ := circB_iff f1
  simp only at c0 c1' c2' c3' c4' f2
  have q1 : n1 ≤ 16 := by have := l1.out; omega
  have q3 : n3 ≤ 1048576 := m3
  have G1 : Hid (gatesK d1 z n1 = true) := Lib.hid (by have := l1.out; rw [this]; exact c3')
  have G2 : Hid (z = n3) := Lib.hid (by have := l3.out; omega)
  have G3 := Lib.hid f3
  have q3' : n3 ≤ 100 := by have := G2.out; omega
  have HR0 : Hid (R_RowsWitness_0 (z, d1, d2) ins = 1 :: (ins ++ tellK (valG ins) d1 n1)) := Lib.hid (by unfold R_RowsWitness_0 witL R_CircuitValues_0; rw [ef]; simp [l1.out])
  obtain ⟨vals, hvals⟩ : ∃ l, Hid (tellK (valG ins) d1 n1 = l) := ⟨_, Lib.hid rfl⟩
  rw [hvals.out] at HR0
  have HCV := fun (W : World) (hb : Below w.heap.size w W) => Lib.hid (s_l8Values A1 n1 c1 A2 n2 c2 A3 n3 c3 z d1 ins W ((H1.out.below hb).more hb.size) ((H3.out.below hb).more hb.size) q1 G1.out G3.out G2.out)
  simp only [hvals.out] at HCV
  clear f1 f2 f3 c0 c1' c2' c3' c4' ef m3 hR1 hvals G1 G2 G3
  go_wp2
  refine wp_region_held_drew (S := fun w' => w'.cell? ⟨w.heap.size, 0, none⟩ = some (.int .i64 z) ∧ w'.cell? ⟨w.heap.size, 1, none⟩ = some (.slice A1 n1 c1) ∧ w'.cell? ⟨w.heap.size, 2, none⟩ = some (.slice A2 n2 c2)) (by kernel_rfl) ⟨HX_c.out.cell 0, HX_c.out.cell 1, HX_c.out.cell 2⟩ (fun hHeld => ?_)
  obtain ⟨u0, hu0⟩ : ∃ u0, Hid (w2.drew = u0) := ⟨_, Lib.hid rfl⟩
  rw [hu0.out] at hHeld ⊢
  have zs0 : w2.heap.size ≤ u0.heap.size := by rw [← hu0.out]; exact Nat.le_refl _
  have HBl0 : Hid (Below w.heap.size w u0) := Lib.hid (by rw [← hu0.out]; exact HB.out.drew)
  have hzw : w.heap.size < u0.heap.size := by rw [← hu0.out]; exact HX_c.out.lt
  have HX_c0 : Hid (Bx u0 w.heap.size #[.int .i64 z, .slice A1 n1 c1, .slice A2 n2 c2] 32) := Lib.hid (by rw [← hu0.out]; exact HX_c.out)
  clear hu0 HB HX_c
  refine wpAnyH_take (i := 1) (oi := { dst := some 11, op := Op.move (Operand.tmp 1), type := 23, pos := "l18_constraints.go:43", after := #[], guard := none }) (v := ?_) rfl (by kernel_rfl) (by kernel_rfl) (by kernel_rfl) (fun _ _ _ h => h) (Or.inl ⟨by rfl, ?_⟩) hHeld ?_
  rotate_left
  · intro w hSw; obtain ⟨s0, s1, s2⟩ := hSw; (try dsimp only at hSw); go_simp; (try with_reducible rfl)
  try simp only [Act.put, List.setIfInBounds_toArray, List.set_cons_zero, List.set_cons_succ]
  refine wpAnyH_take (i := 3) (oi := { dst := some 13, op := Op.load 32 (Operand.tmp 2), type := 32, pos := "l18_constraints.go:43", after := #[], guard := none }) (v := ?_) rfl (by kernel_rfl) (by kernel_rfl) (by kernel_rfl) (fun _ _ _ h => h) (Or.inl ⟨by rfl, ?_⟩) hHeld ?_
  rotate_left
  · intro w hSw; obtain ⟨s0, s1, s2⟩ := hSw; (try dsimp only at hSw); go_simp; (try with_reducible rfl)
  try simp only [Act.put, List.setIfInBounds_toArray, List.set_cons_zero, List.set_cons_succ]
  refine wpAnyH_take (i := 4) (oi := { dst := some 14, op := Op.move (Operand.tmp 1), type := 23, pos := "l18_constraints.go:43", after := #[], guard := none }) (v := ?_) rfl (by kernel_rfl) (by kernel_rfl) (by kernel_rfl) (fun _ _ _ h => h) (Or.inl ⟨by rfl, ?_⟩) hHeld ?_
  rotate_left
  · intro w hSw; obtain ⟨s0, s1, s2⟩ := hSw; (try dsimp only at hSw); go_simp; (try with_reducible rfl)
  try simp only [Act.put, List.setIfInBounds_toArray, List.set_cons_zero, List.set_cons_succ]
  refine wpAnyH_ready (rs := [0]) (by kernel_rfl) (by simp) ?_
  refine AllReadyH.cons (o := { dst := some 10, op := Op.buildSlice 23 1 #[(0, Operand.const (Value.int IntKind.i64 1))], type := 23, pos := "l18_constraints.go:43", after := #[], guard := none }) rfl (fun K hK => ?_) ?_
  · go_simp
    obtain ⟨u1, hw1⟩ : ∃ W, Hid (u0.alloc (.cells #[.int .i64 1] 3) = W) := ⟨_, Lib.hid rfl⟩
    rw [hw1.out]
    have hab : Below u0.heap.size u0 u1 := by rw [← hw1.out]; exact (Below.refl _ _).alloc (Nat.le_refl _) _
    have zs1 : u0.heap.size < u1.heap.size := by rw [← hw1.out, World.size_alloc]; omega
    have HBl1 : Hid (Below w.heap.size w u1) := Lib.hid (HBl0.out.trans (hab.mono HBl0.out.size))
    have HX_c1 := Lib.hid (HX_c0.out.below hab HX_c0.out.lt)
    have HL1 : Hid (Bx u1 u0.heap.size #[.int .i64 1] 3) := Lib.hid (by rw [← hw1.out]; exact Bx.new _ _ _)
    clear hHeld hw1 hab HBl0 HX_c0
    refine hK.out _ _ ⟨HX_c1.out.cell 0, HX_c1.out.cell 1, HX_c1.out.cell 2⟩ (fun hHeld => ?_)
    clear hK K
    try simp only [Act.put, List.setIfInBounds_toArray, List.set_cons_zero, List.set_cons_succ]
    refine wpAnyH_ready (rs := [2]) (by kernel_rfl) (by simp) ?_
    refine AllReadyH.cons (o := { dst := some 12, op := Op.call { callee := Callee.builtin Builtin.append, args := #[Operand.tmp 10, Operand.tmp 11], argTypes := #[23, 23] }, type := 23, pos := "l18_constraints.go:43", after := #[{ on := 0, ground := Ground.data }, { on := 1, ground := Ground.data }], guard := none }) rfl (fun K hK => ?_) ?_
    · have hbB : w.heap.size < u0.heap.size := Nat.lt_of_le_of_lt (Nat.le_refl _) (by have := HX_c1.out.lt; omega)
      refine step_append_rd rfl (.tmp 10) (.tmp 11) _ rfl w.heap.size 3 _ 1 8 Try.underlying23 info_int rfl (by decide) (.slice (some ⟨u0.heap.size, 0, none⟩) 1 1) 1 [.int .i64 1] rfl (own_lit1 HL1.out (by omega)) _ A3 n3 c3 (cI ins) rfl (H3.out.below HBl1.out) (cI_one _) (by unfold maxLen; omega) (by omega) HBl1.out.size ?_
      intro v2 u2 hown hgr hat
      obtain ⟨Ar, cr, rfl, _⟩ := Ow.of_own hown
      have hgr2 : u1.grownBy u2 (some u0.heap.size) := hgr
      have zs2 : u1.heap.size ≤ u2.heap.size := hgr.size
      have HBl2 : Hid (Below w.heap.size w u2) := Lib.hid (below_grown HBl1.out hgr (fun g e => by have e2 : some u0.heap.size = some g := e; injection e2 with e2; omega) HBl1.out.size)
      have HX_c2 := Lib.hid (HX_c1.out.grown1 hgr2 (by intro e; injection e with e; omega))
      have HR2 : Hid (u2.ownsRow w.heap.size 3 1 (.slice Ar (1 + n3) cr) (1 + n3) ([.int .i64 1] ++ cI ins)) := Lib.hid hown
      clear hHeld hown hgr hgr2 hat HBl1 HX_c1 HL1
      refine hK.out _ _ ⟨HX_c2.out.cell 0, HX_c2.out.cell 1, HX_c2.out.cell 2⟩ (fun hHeld => ?_)
      clear hK K
      try simp only [Act.put, List.setIfInBounds_toArray, List.set_cons_zero, List.set_cons_succ]
      refine wpAnyH_ready (rs := [5]) (by kernel_rfl) (by simp) ?_
      refine AllReadyH.cons (o := { dst := some 15, op := Op.call { callee := Callee.value (Operand.func 39), args := #[Operand.tmp 13, Operand.tmp 14], argTypes := #[32, 23] }, type := 23, pos := "l18_constraints.go:43", after := #[{ on := 3, ground := Ground.data }, { on := 4, ground := Ground.data }, { on := 2, ground := Ground.chain }], guard := none }) rfl (fun K hK => ?_) ?_
      · go_simp
        refine (HCV u2 HBl2.out).out.mono ?_
        rintro e u3 ⟨Av, cv, rfl, ho, hb_⟩
        have zs3 : u2.heap.size ≤ u3.heap.size := hb_.size
        have HBl3 : Hid (Below w.heap.size w u3) := Lib.hid (HBl2.out.trans (hb_.mono HBl2.out.size))
        have HX_c3 := Lib.hid (HX_c2.out.below hb_ HX_c2.out.lt)
        have HV3 := Lib.hid ho
        have HR3 := Lib.hid (ownsRow_below HR2.out hb_)
        clear hHeld hb_ ho HBl2 HX_c2 HR2
        (try dsimp only)
        (try go_wp2_with fail)
        refine hK.out _ _ ⟨HX_c3.out.cell 0, HX_c3.out.cell 1, HX_c3.out.cell 2⟩ (fun hHeld => ?_)
        clear hK K
        try simp only [Act.put, List.setIfInBounds_toArray, List.set_cons_zero, List.set_cons_succ]
        refine wpAnyH_ready (rs := [6]) (by kernel_rfl) (by simp) ?_
        refine AllReadyH.cons (o := { dst := some 16, op := Op.call { callee := Callee.builtin Builtin.append, args := #[Operand.tmp 12, Operand.tmp 15], argTypes := #[23, 23] }, type := 23, pos := "l18_constraints.go:43", after := #[{ on := 2, ground := Ground.data }, { on := 5, ground := Ground.data }, { on := 5, ground := Ground.chain }], guard := none }) rfl (fun K hK => ?_) ?_
        · refine step_append_rd rfl (.tmp 12) (.tmp 15) _ rfl w.heap.size 3 _ 1 8 Try.underlying23 info_int rfl (by decide) (.slice Ar (1 + n3) cr) (1 + n3) ([.int .i64 1] ++ cI ins) rfl HR3.out _ Av n1 cv (cI vals) rfl HV3.out.rd8 (cI_one _) (by unfold maxLen; omega) (by omega) HBl3.out.size ?_
          intro v3 u4 hown hgr hat
          have HO : Hid (OwIntS u4 w.heap.size u4.heap.size v3 (1 :: (ins ++ vals))) := Lib.hid (own_fin3 (n := 1 + n3 + n1) (by have e : cI (1 :: (ins ++ vals)) = [.int .i64 1] ++ cI ins ++ cI vals := (by simp [cI]); rw [e]; exact hown) (by omega))
          have HBl4 : Hid (Below w.heap.size w u4) := Lib.hid (below_grown HBl3.out hgr (fun g e => own_ge HR3.out e) HBl3.out.size)
          have HX_c4 : Hid (Bx u4 w.heap.size #[.int .i64 z, .slice A1 n1 c1, .slice A2 n2 c2] 32) := Lib.hid (HX_c3.out.grown1 hgr (own_apart3 HR3.out HX_c3.out))
          clear hHeld hown hgr hat HBl3 HX_c3 HR3 HV3
          refine hK.out _ _ ⟨HX_c4.out.cell 0, HX_c4.out.cell 1, HX_c4.out.cell 2⟩ (fun hHeld => ?_)
          clear hK K
          try simp only [Act.put, List.setIfInBounds_toArray, List.set_cons_zero, List.set_cons_succ]
          refine wpAnyH_take (i := 7) (oi := { dst := some 4, op := Op.assign (Operand.tmp 16), type := 23, pos := "l18_constraints.go:43", after := #[{ on := 6, ground := Ground.data }, { on := 6, ground := Ground.chain }, { on := 0, ground := Ground.phase }, { on := 1, ground := Ground.phase }, { on := 2, ground := Ground.phase }, { on := 3, ground := Ground.phase }, { on := 4, ground := Ground.phase }, { on := 5, ground := Ground.phase }, { on := 6, ground := Ground.phase }], guard := none }) (v := ?_) rfl (by kernel_rfl) (by kernel_rfl) (by kernel_rfl) (fun _ _ _ h => h) (Or.inl ⟨by rfl, ?_⟩) hHeld ?_
          rotate_left
          · intro w hSw; obtain ⟨s0, s1, s2⟩ := hSw; (try dsimp only at hSw); go_simp; (try with_reducible rfl)
          try simp only [Act.put, List.setIfInBounds_toArray, List.set_cons_zero, List.set_cons_succ]
          refine wpAnyH_take (i := 8) (oi := { dst := some 5, op := Op.assign (Operand.const (Value.bool true)), type := 4, pos := "l18_constraints.go:43", after := #[{ on := 7, ground := Ground.chain }, { on := 0, ground := Ground.phase }, { on := 1, ground := Ground.phase }, { on := 2, ground := Ground.phase }, { on := 3, ground := Ground.phase }, { on := 4, ground := Ground.phase }, { on := 5, ground := Ground.phase }, { on := 6, ground := Ground.phase }, { on := 7, ground := Ground.phase }], guard := none }) (v := ?_) rfl (by kernel_rfl) (by kernel_rfl) (by kernel_rfl) (fun _ _ _ h => h) (Or.inl ⟨by rfl, ?_⟩) hHeld ?_
          rotate_left
          · intro w hSw; obtain ⟨s0, s1, s2⟩ := hSw; (try dsimp only at hSw); go_simp; (try with_reducible rfl)
          try simp only [Act.put, List.setIfInBounds_toArray, List.set_cons_zero, List.set_cons_succ]
          refine wpAnyH_done (by kernel_rfl) ?_ _
          go_wp2
          go_ret2
          exact ⟨_, ret_vb HR1.out.symm, by rw [HR0.out]; exact HO.out, HBl4.out⟩
        exact AllReadyH.nil
      exact AllReadyH.nil
    exact AllReadyH.nil
  exact AllReadyH.nil
set_option maxHeartbeats 8000000 in
theorem X_i_RowsWitness (v v' : Value) (d : Int × List (Int × Int × Int) × List Int) (ins : List Int) (w : World) (h : RdCircuit w w.heap.size v d) (h' : RdIntS w w.heap.size v' ins) (hs : szCircuit d ≤ 1048576) (hs' : szIntS ins ≤ 1048576) :
    Calls Try.prog 18 #[v, v'] w fun e w' => ∃ g, e = .returned (.tuple #[g, .bool (R_RowsWitness_1 d ins)]) ∧ OwIntS w' w.heap.size w'.heap.size g (R_RowsWitness_0 d ins) ∧ Below w.heap.size w w' := by
  have hv : ∃ A1 n1 c1 A2 n2 c2, v = .agg #[.int .i64 d.1, .slice A1 n1 c1, .slice A2 n2 c2] := by
    obtain ⟨A1, n1, c1, A2, n2, c2, rfl, _, _⟩ := h
    exact ⟨A1, n1, c1, A2, n2, c2, rfl⟩
  obtain ⟨A1, n1, c1, A2, n2, c2, rfl⟩ := hv
  obtain ⟨A3, n3, c3, rfl, hm3, h3⟩ := h'
  have m3 : n3 ≤ 1048576 := by have := h3.len; unfold szIntS at hs'; omega
  have l3 := Lib.hid h3.len
  obtain ⟨W0, hW0⟩ : ∃ W, Hid (w.alloc (.cells #[.int .i64 d.1, .slice A1 n1 c1, .slice A2 n2 c2] 32) = W) := ⟨_, Lib.hid rfl⟩
  have HB0 : Hid (Below w.heap.size w W0) := Lib.hid (by rw [← hW0.out]; exact (Below.refl _ _).alloc (Nat.le_refl _) _)
  have HX0 : Hid (Bx W0 w.heap.size #[.int .i64 d.1, .slice A1 n1 c1, .slice A2 n2 c2] 32) := Lib.hid (by rw [← hW0.out]; exact Bx.new _ _ _)
  have HCV := Lib.hid (X_i_CircuitValues (.agg #[.int .i64 d.1, .slice A1 n1 c1, .slice A2 n2 c2]) (.slice A3 n3 c3) d ins W0 ((h.below HB0.out).more HB0.out.size) ⟨A3, n3, c3, rfl, hm3, (h3.below HB0.out).more HB0.out.size⟩ hs hs')
  have H3 := Lib.hid h3
  have b0 : (w.alloc (.cells #[.int .i64 d.1, .slice A1 n1 c1, .slice A2 n2 c2] 32)).cell? ⟨w.heap.size, 0, none⟩ = some (.int .i64 d.1) := (Bx.new _ _ _).cell 0
  have b1 : (w.alloc (.cells #[.int .i64 d.1, .slice A1 n1 c1, .slice A2 n2 c2] 32)).cell? ⟨w.heap.size, 1, none⟩ = some (.slice A1 n1 c1) := (Bx.new _ _ _).cell 1
  have b2 : (w.alloc (.cells #[.int .i64 d.1, .slice A1 n1 c1, .slice A2 n2 c2] 32)).cell? ⟨w.heap.size, 2, none⟩ = some (.slice A2 n2 c2) := (Bx.new _ _ _).cell 2
  obtain ⟨R, hR⟩ : ∃ l, Hid (R_CircuitValues_0 d ins = l) := ⟨_, Lib.hid rfl⟩
  rw [hR.out] at HCV
  clear h h3 hs hs'
  go_enter Try.func18, Try.ntmps18
  go_wp2_with fail
  rw [hW0.out]
  clear hW0
  refine HCV.out.mono ?_
  rintro e w2 ⟨g, rfl, ho, hb⟩
  have HB2 : Hid (Below w.heap.size w w2) := Lib.hid (HB0.out.trans (hb.mono HB0.out.size))
  have z2 := hb.size
  obtain ⟨hsz, Ag, ng, cg, rfl, hog⟩ := ho
  have HV : Hid (Rd w2 w2.heap.size 1 Ag ng (cI R)) := Lib.hid hog.rd
  have hng : ng ≤ 1048576 := by have := hog.len; omega
  clear hog hb b0 b1 b2 HCV
  cases ef : fitsB d ins
  · have HF := rowsWit_no ef
    go_wp2
    go_ret2
    exact ⟨_, ret_vb ef.symm, by rw [HF.out.2]; exact OwIntS.nil_ _ _ _, HB2.out⟩
  have HR0 : Hid (R_RowsWitness_0 d ins = [[1], ins, R].flatten) := Lib.hid (by unfold R_RowsWitness_0 witL; rw [ef, hR.out]; simp)
  have HR1 : Hid (R_RowsWitness_1 d ins = true) := Lib.hid ef
  obtain ⟨W3, hW3⟩ : ∃ W, Hid (w2.alloc (.cells #[.int .i64 1] 3) = W) := ⟨_, Lib.hid rfl⟩
  have HB3 : Hid (Below w2.heap.size w2 W3) := Lib.hid (by rw [← hW3.out]; exact (Below.refl _ _).alloc (Nat.le_refl _) _)
  have HL3 : Hid (Bx W3 w2.heap.size #[.int .i64 1] 3) := Lib.hid (by rw [← hW3.out]; exact Bx.new _ _ _)
  have z3 : W3.heap.size = w2.heap.size + 1 := by rw [← hW3.out]; simp
  obtain ⟨W4, hW4⟩ : ∃ W, Hid (W3.alloc (.cells #[.slice (some ⟨w2.heap.size, 0, none⟩) 1 1, .slice A3 n3 c3, .slice Ag ng cg] 23) = W) := ⟨_, Lib.hid rfl⟩
  have HB4 : Hid (Below W3.heap.size W3 W4) := Lib.hid (by rw [← hW4.out]; exact (Below.refl _ _).alloc (Nat.le_refl _) _)
  have HL4 : Hid (Bx W4 (w2.heap.size + 1) #[.slice (some ⟨w2.heap.size, 0, none⟩) 1 1, .slice A3 n3 c3, .slice Ag ng cg] 23) := Lib.hid (by rw [← hW4.out, ← z3]; exact Bx.new _ _ _)
  have z4 : W4.heap.size = w2.heap.size + 2 := by rw [← hW4.out, World.size_alloc, z3]
  have HB24 : Hid (Below w2.heap.size w2 W4) := Lib.hid (HB3.out.trans (HB4.out.mono (by omega)))
  have HB : Hid (Below w.heap.size w W4) := Lib.hid (HB2.out.trans (HB24.out.mono HB2.out.size))
  have HRR : Hid (RdR W4 W4.heap.size (some ⟨w2.heap.size + 1, 0, none⟩) 3 [.slice (some ⟨w2.heap.size, 0, none⟩) 1 1, .slice A3 n3 c3, .slice Ag ng cg] [[1], ins, R]) := Lib.hid (by
    refine ⟨(lit_bx HL4.out).more (by omega), rfl, fun i hi => ?_⟩
    obtain rfl | rfl | rfl : i = 0 ∨ i = 1 ∨ i = 2 := by omega
    · exact ⟨_, _, _, rfl, by omega, (lit_bx (HL3.out.below HB4.out HL3.out.lt)).more (by omega)⟩
    · exact ⟨_, _, _, rfl, hm3, (H3.out.below HB.out).more HB.out.size⟩
    · exact ⟨_, _, _, rfl, by omega, (HV.out.below HB24.out).more HB24.out.size⟩)
  obtain ⟨fl, hfl⟩ : ∃ l, Hid (([[1], ins, R] : List (List Int)).flatten = l) := ⟨_, Lib.hid rfl⟩
  have hfs : fl.length ≤ 1048576 := by
    obtain ⟨f1, f2, _⟩ := fits_iff ef
    obtain ⟨k0, k1, k2, k3, k4⟩ := circB_iff f1
    have hRl : R.length = d.2.1.length := by rw [← hR.out]; unfold R_CircuitValues_0; rw [ef]; exact tellK_length _ _ _
    rw [← hfl.out]; simp; omega
  have HCC := Lib.hid (i_Concat _ 3 3 _ _ W4 HRR.out (by omega) (by rw [hfl.out]; omega))
  rw [hfl.out] at HCC HR0
  clear HRR HV HB24 HB4 HL4 HL3 HB3 hR
  go_wp2_with fail
  rw [hW3.out, ← z3, hW4.out, z3]
  refine HCC.out.mono ?_
  rintro e w5 ⟨A5, c5, rfl, ho5, hb5⟩
  have HO : Hid (OwIntS w5 w.heap.size w5.heap.size (.slice A5 fl.length c5) fl) := Lib.hid ((OwIntS.widen (lo := W4.heap.size) ⟨hfs, _, _, _, rfl, ho5⟩ HB.out.size (Nat.le_refl _)))
  have HB5 : Hid (Below w.heap.size w w5) := Lib.hid (HB.out.trans (hb5.mono HB.out.size))
  clear ho5 hb5 HCC
  go_wp2
  go_ret2
  exact ⟨_, ret_vb HR1.out.symm, by rw [HR0.out]; exact HO.out, HB5.out⟩
end Go.Proofs.Ytlagkinamnjnhaa

/- Lists of lists of points: what reads, what is owned; the laws' helpers over them. Made by tools/genss.py. -/
namespace Go.Proofs.Ytlagkinamnjnhaa
open Go.RowKit
set_option maxRecDepth 100000

/-- the sum of the lengths of the first k rows -/
def lensKP (d : List (List (Int × Int))) : Nat → Nat
  | 0 => 0
  | k + 1 => lensKP d k + (d.getD k []).length
theorem lensKP_mono (d : List (List (Int × Int))) {i j : Nat} (h : i ≤ j) : lensKP d i ≤ lensKP d j := by
  induction j with
  | zero => rw [show i = 0 by omega]; exact Nat.le_refl _
  | succ j ih =>
    by_cases hc : i = j + 1
    · rw [hc]; exact Nat.le_refl _
    · have := ih (by omega); rw [lensKP]; omega
theorem lensKP_row (d : List (List (Int × Int))) {k n : Nat} (h : k < n) : (d.getD k []).length ≤ lensKP d n := by
  have := lensKP_mono d (show k + 1 ≤ n by omega); rw [lensKP] at this; omega

/-- (A, n) reads as the rows d, below block hi -/
def RdRP (w : World) (hi : Nat) (A : Option Addr) (n : Nat) (vs : List Value) (d : List (List (Int × Int))) : Prop :=
  Rd w hi 1 A n vs ∧ d.length = n ∧ ∀ i, i < n → RdPointS w hi (vs.getD i undef) (d.getD i [])
section
variable {w w' : World} {lo hi lo' hi' n c k g : Nat} {A : Option Addr} {vs : List Value} {d : List (List (Int × Int))}
theorem RdRP.row (h : RdRP w hi A n vs d) (hk : k < n) : ∃ (a : Addr) (Ai : Option Addr) (ni ci : Nat), A = some a ∧ a.block < hi ∧ w.cell? (a.add k) = some (.slice Ai ni ci) ∧ RdPointS w hi (.slice Ai ni ci) (d.getD k []) ∧ ni ≤ 9223372036854775807 ∧ (d.getD k []).length = ni := by
  obtain ⟨h1, h2, h3⟩ := h
  obtain ⟨a, e, hb, hc⟩ := h1.2 (by omega)
  have hl := h1.1
  have hr := h3 k hk
  obtain ⟨Ai, ni, ci, e2, hn, r⟩ := h3 k hk
  refine ⟨a, Ai, ni, ci, e, hb, ?_, ?_, hn, r.plen⟩
  · rw [← e2]; exact hc k _ (getD_get (by omega))
  · rw [← e2]; exact hr
theorem RdRP.keep (h : RdRP w hi A n vs d) (hb : Below hi w w') : RdRP w' hi A n vs d := ⟨h.1.below hb, h.2.1, fun i hi' => (h.2.2 i hi').below hb⟩
theorem RdRP.more (h : RdRP w hi A n vs d) (hh : hi ≤ hi') : RdRP w hi' A n vs d := ⟨h.1.more hh, h.2.1, fun i hi' => (h.2.2 i hi').more hh⟩
end

/-- the first k rows copied, the others still nil -/
def copyRP (d : List (List (Int × Int))) (n k : Nat) : List (List (Int × Int)) := d.take k ++ List.replicate (n - k) []
theorem copyRP_get (d : List (List (Int × Int))) (n k i : Nat) (h : d.length = n) (hk : k ≤ n) : (copyRP d n k).getD i [] = if i < k then d.getD i [] else [] := by
  unfold copyRP
  simp only [List.getD_eq_getElem?_getD, List.getElem?_append, List.length_take, List.getElem?_take, List.getElem?_replicate]
  by_cases h1 : i < k
  · rw [if_pos (by omega), if_pos h1, if_pos h1]
  · rw [if_neg (by omega), if_neg h1]
    by_cases h2 : i - min k d.length < n - k
    · rw [if_pos h2]; rfl
    · rw [if_neg h2]; rfl
theorem copyRP_all (d : List (List (Int × Int))) (n : Nat) (h : d.length = n) : copyRP d n n = d := by
  unfold copyRP; rw [List.take_of_length_le (by omega), Nat.sub_self]; simp

/-- rows marked one behind the other -/
def mkRowP (K : Int) (d : List (List (Int × Int))) (i : Nat) : List (Int × Int) := iotaP (K + 2 * lensKP d i) (d.getD i []).length
def mkPointSS (K : Int) (d : List (List (Int × Int))) : List (List (Int × Int)) := (List.range d.length).map (mkRowP K d)
def markRP (K : Int) (d : List (List (Int × Int))) (k : Nat) : List (List (Int × Int)) := (List.range d.length).map fun i => if i < k then mkRowP K d i else d.getD i []
theorem markRP_get (K : Int) (d : List (List (Int × Int))) (k i : Nat) (h : i < d.length) : (markRP K d k).getD i [] = if i < k then mkRowP K d i else d.getD i [] := by simp [markRP, h]
theorem mkPointSS_get (K : Int) (d : List (List (Int × Int))) (i : Nat) (h : i < d.length) : (mkPointSS K d).getD i [] = mkRowP K d i := by simp [mkPointSS, h]
theorem mkRowP_len (K : Int) (d : List (List (Int × Int))) (i : Nat) : (mkRowP K d i).length = (d.getD i []).length := by rw [mkRowP, iotaP_length]
theorem markRP_length (K : Int) (d : List (List (Int × Int))) (k : Nat) : (markRP K d k).length = d.length := by simp [markRP]
theorem mkPointSS_length (K : Int) (d : List (List (Int × Int))) : (mkPointSS K d).length = d.length := by simp [mkPointSS]
theorem ext_rowsP {p q : List (List (Int × Int))} (hl : p.length = q.length) (h : ∀ j, j < p.length → p.getD j [] = q.getD j []) : p = q := by
  apply List.ext_getElem hl
  intro j h1 h2
  have := h j h1
  simpa [h1, h2] using this
theorem markRP_0 (K : Int) (d : List (List (Int × Int))) : markRP K d 0 = d := ext_rowsP (markRP_length _ _ _) fun j hj => by rw [markRP_length] at hj; rw [markRP_get _ _ _ _ hj, if_neg (by omega)]
theorem markRP_n (K : Int) (d : List (List (Int × Int))) : markRP K d d.length = mkPointSS K d := ext_rowsP (by rw [markRP_length, mkPointSS_length]) fun j hj => by rw [markRP_length] at hj; rw [markRP_get _ _ _ _ hj, if_pos hj, mkPointSS_get _ _ _ hj]
theorem markRP_succ (K : Int) (d : List (List (Int × Int))) (k : Nat) (_hk : k < d.length) : (markRP K d k).set k (mkRowP K d k) = markRP K d (k + 1) := by
  refine ext_rowsP (by simp [markRP_length]) fun j hj => ?_
  rw [List.length_set, markRP_length] at hj
  rw [markRP_get _ _ _ _ hj]
  simp only [List.getD_eq_getElem?_getD, List.getElem?_set, markRP_length]
  by_cases hc : k = j
  · subst hc; rw [if_pos rfl, if_pos hj, if_pos (by omega)]; rfl
  · rw [if_neg hc, ← List.getD_eq_getElem?_getD, markRP_get _ _ _ _ hj]
    by_cases h2 : j < k
    · rw [if_pos h2, if_pos (by omega)]
    · rw [if_neg h2, if_neg (by omega)]; rfl

/-- the size: the rows and all that they hold -/
def szPointSS (d : List (List (Int × Int))) : Nat := d.length + lensKP d d.length

/-! as whole values -/
def RdPointSS (w : World) (hi : Nat) (v : Value) (d : List (List (Int × Int))) : Prop := ∃ A n c vs, v = .slice A n c ∧ n ≤ 9223372036854775807 ∧ RdRP w hi A n vs d
section
variable {w w' : World} {lo hi lo' hi' B mid : Nat} {v : Value} {d : List (List (Int × Int))}
theorem RdPointSS.below (h : RdPointSS w hi v d) (hb : Below hi w w') : RdPointSS w' hi v d := by
  obtain ⟨A, n, c, vs, rfl, hn, r⟩ := h; exact ⟨A, n, c, vs, rfl, hn, r.keep hb⟩
theorem RdPointSS.more (h : RdPointSS w hi v d) (hh : hi ≤ hi') : RdPointSS w hi' v d := by
  obtain ⟨A, n, c, vs, rfl, hn, r⟩ := h; exact ⟨A, n, c, vs, rfl, hn, r.more hh⟩
end
theorem mkP_lens (K : Int) (d : List (List (Int × Int))) (k : Nat) (h : k ≤ d.length) : lensKP (mkPointSS K d) k = lensKP d k := by
  induction k with
  | zero => rfl
  | succ k ih => rw [lensKP, lensKP, ih (by omega), mkPointSS_get _ _ _ (by omega), mkRowP_len]
theorem mkP_sz (K : Int) (d : List (List (Int × Int))) : szPointSS (mkPointSS K d) = szPointSS d := by unfold szPointSS; rw [mkPointSS_length, mkP_lens _ _ _ (Nat.le_refl _)]
end Go.Proofs.Ytlagkinamnjnhaa

/- A struct of one-cell fields among a law's parameters. -/
namespace Go.Proofs.Ytlagkinamnjnhaa
open Go.ChangeShapes Go.WideShapes Go.ChangeAt Go.RowKit
theorem field_int {H : Type} {enc : TypeId × Value → H} {P : Program} {w : World} {base n : Nat} {sp : Nat → Bool} {held : Bool} {t : TypeId} {u : Value} {y : DataW H × List MemPlace} (ht : P.underlying t = some (.int .i64)) (h : DataW.trod enc P w base sp held n t [u] = some y) :
    ∃ z, u = .int .i64 z ∧ (Lit.int .i64 z).wf = true := by
  cases n with
  | zero => simp [DataW.trod] at h
  | succ n =>
    cases u <;> simp [DataW.trod, ht] at h
    obtain ⟨⟨rfl, hw⟩, _⟩ := h
    exact ⟨_, rfl, hw⟩
theorem field_bool {H : Type} {enc : TypeId × Value → H} {P : Program} {w : World} {base n : Nat} {sp : Nat → Bool} {held : Bool} {t : TypeId} {u : Value} {y : DataW H × List MemPlace} (ht : P.underlying t = some .bool) (h : DataW.trod enc P w base sp held n t [u] = some y) :
    ∃ z, u = .bool z := by
  cases n with
  | zero => simp [DataW.trod] at h
  | succ n =>
    cases u <;> simp [DataW.trod, ht] at h
    exact ⟨_, rfl⟩
end Go.Proofs.Ytlagkinamnjnhaa

/- Arguments that are structs with lists, opened. -/
namespace Go.Proofs.Ytlagkinamnjnhaa
open Go.ChangeShapes Go.WideShapes Go.ChangeAt Go.RowKit
set_option maxRecDepth 100000

section
variable {H : Type} {enc : TypeId × Value → H} {P : Program} {w : World}
theorem row_lt {a : Addr} {K : Nat} {u : Value} (h : w.cell? (a.add K) = some u) : a.block < w.heap.size := by
  have := World.block_lt_of_cell? (a := a.add K) _ h
  rw [add_block] at this; exact this

/-- a list of structs of K ints -/
theorem open_flat (K : Nat) (hK : 0 < K) {t e : TypeId} {fs : Array Field} {fuel : Nat} {cs : List Value} {x : DataW H × List MemPlace} (ht : P.underlying t = some (.slice e)) (he : P.underlying e = some (.struct fs)) (ce : P.cellsOf e = K)
    (hf : ∀ j, j < K → ∃ f, fs[j]? = some f ∧ f.offset = j ∧ P.cellsOf f.type = 1 ∧ P.underlying f.type = some (.int .i64)) (h : DataW.trod enc P w 0 (fun _ => true) true fuel t cs = some x) :
    ∃ A n c, cs = [.slice A n c] ∧ n ≤ 9223372036854775807 ∧ (0 < n → ∃ a, A = some a ∧ a.block < w.heap.size) ∧ ∃ Z : Nat → Nat → Int, ∀ a, A = some a → ∀ i, i < n → ∀ j, j < K → w.cell? (a.add (i * K + j)) = some (.int .i64 (Z i j)) := by
  rcases Go.Deep.open_slice ht h with ⟨rfl, _⟩ | ⟨a, len, cap, m, n, D, Pl, rfl, _, hl, hm, hmm, _, hx⟩
  · exact ⟨_, _, _, rfl, by omega, fun h => by omega, fun _ _ => 0, fun a ha => by cases ha⟩
  · simp only [if_true] at hmm
    unfold maxLen at hm
    have each : ∀ i, i < len → ∃ z : Nat → Int, ∀ j, j < K → w.cell? (a.add (i * K + j)) = some (.int .i64 (z j)) := by
      intro i hi
      obtain ⟨cs', h1, h2⟩ := hx i (by omega)
      rw [ce] at h1
      obtain ⟨_, hlen, hcell⟩ := World.cells?_some h1
      obtain ⟨xs, k, hk, _, _, hxl, hf2⟩ := DataW.trod_struct he h2
      refine ⟨fun j => intOf (cs'.getD j undef), fun j hj => ?_⟩
      obtain ⟨f, f1, f2, f3, f4⟩ := hf j hj
      have g := hf2 j f f1
      have hjx : j < xs.length := by
        rw [hxl]
        exact (Array.getElem?_eq_some_iff.1 f1).1
      rw [f2, f3, List.getElem?_eq_getElem hjx] at g
      have hjl : j < cs'.length := by omega
      have e0 : cs'[j]? = some (cs'.getD j undef) := by rw [List.getD_eq_getElem?_getD, List.getElem?_eq_getElem hjl]; rfl
      have e1 : (cs'.drop j).take 1 = [cs'.getD j undef] := by
        rw [List.drop_eq_getElem_cons hjl, List.take_succ_cons, List.take_zero, List.getD_eq_getElem?_getD, List.getElem?_eq_getElem hjl]; rfl
      rw [e1] at g
      obtain ⟨z, e2, _⟩ := DataW.trod_int f4 g
      have e3 : cs'.getD j undef = .int .i64 z := by injection e2
      have e4 := hcell j hj
      rw [Go.Deep.add_add] at e4
      rw [e4, e0]
      show some (cs'.getD j undef) = some (.int .i64 (intOf (cs'.getD j undef)))
      rw [e3]; rfl
    obtain ⟨Z, hZ⟩ := Go.Deep.choose_lt each
    refine ⟨some a, len, cap, rfl, by omega, fun h0 => ⟨a, rfl, row_lt (hZ 0 h0 0 hK)⟩, Z, fun b hb i hi j hj => ?_⟩
    injection hb with hb; subst hb
    exact hZ i hi j hj

theorem field_GateS {t e : TypeId} {f0 f1 f2 : Field} {n : Nat} {u : Value} {y : DataW H × List MemPlace} (ht : P.underlying t = some (.slice e)) (he : P.underlying e = some (.struct #[f0, f1, f2])) (ce : P.cellsOf e = 3)
    (o0 : f0.offset = 0) (o1 : f1.offset = 1) (o2 : f2.offset = 2) (c0 : P.cellsOf f0.type = 1) (c1 : P.cellsOf f1.type = 1) (c2 : P.cellsOf f2.type = 1) (t0 : P.underlying f0.type = some (.int .i64)) (t1 : P.underlying f1.type = some (.int .i64)) (t2 : P.underlying f2.type = some (.int .i64))
    (h : DataW.trod enc P w 0 (fun _ => true) true n t [u] = some y) : ∃ A n c d, u = .slice A n c ∧ RdGateS w w.heap.size (.slice A n c) d := by
  obtain ⟨A, n, c, hu, hn, hb, Z, hZ⟩ := open_flat 3 (by omega) ht he ce (fun j hj => by
    match j, hj with
    | 0, _ => exact ⟨f0, rfl, o0, c0, t0⟩
    | 1, _ => exact ⟨f1, rfl, o1, c1, t1⟩
    | 2, _ => exact ⟨f2, rfl, o2, c2, t2⟩) h
  refine ⟨A, n, c, (List.range n).map fun i => (Z i 0, Z i 1, Z i 2), by simpa using hu, A, n, c, rfl, hn, by rw [cGate_length]; simp, fun h0 => ?_⟩
  obtain ⟨a, rfl, hab⟩ := hb h0
  refine ⟨a, rfl, hab, fun j v hv => ?_⟩
  have hj : j < n * 3 := by
    have := (List.getElem?_eq_some_iff.1 hv).1
    rw [cGate_length] at this; simpa using this
  have h2 : j = (j / 3) * 3 + 0 ∨ j = (j / 3) * 3 + 1 ∨ j = (j / 3) * 3 + 2 := by omega
  have hk : j / 3 < n := by omega
  generalize j / 3 = k at h2 hk
  rcases h2 with rfl | rfl | rfl
  · rw [hZ a rfl k hk 0 (by omega), ← hv, Nat.add_zero, cGate_get0 _ _ (by simpa using hk)]; simp [hk]
  · rw [hZ a rfl k hk 1 (by omega), ← hv, cGate_get1 _ _ (by simpa using hk)]; simp [hk]
  · rw [hZ a rfl k hk 2 (by omega), ← hv, cGate_get2 _ _ (by simpa using hk)]; simp [hk]

theorem field_IntS {t e : TypeId} {n : Nat} {u : Value} {y : DataW H × List MemPlace} (ht : P.underlying t = some (.slice e)) (he : P.underlying e = some (.int .i64)) (hc : P.cellsOf e = 1)
    (h : DataW.trod enc P w 0 (fun _ => true) true n t [u] = some y) : ∃ A n c d, u = .slice A n c ∧ RdIntS w w.heap.size (.slice A n c) d := by
  rcases open_ints ht he hc h with ⟨hn, _⟩ | ⟨a, len, cap, zs, hs, _, hlc, hm, hlen, _, hcell, _⟩
  · have : u = .slice none 0 0 := by simpa using hn
    exact ⟨_, _, _, [], this, _, _, _, rfl, by omega, by simp [cI], fun h => by omega⟩
  · have : u = .slice (some a) len cap := by simpa using hs
    simp only [if_true] at hlen
    unfold maxLen at hm
    refine ⟨_, _, _, zs.take len, this, _, _, _, rfl, by omega, by rw [cI_length, List.length_take]; omega, fun hn => ⟨a, rfl, row_lt (hcell 0 (by omega)), fun j v hv => ?_⟩⟩
    have hj : j < len := by
      have := (List.getElem?_eq_some_iff.1 hv).1
      rw [cI_length, List.length_take] at this; omega
    rw [hcell j (by omega), ← hv, cI_get _ _ (by rw [List.length_take]; omega)]
    simp [hj]

theorem field_PointS {t e : TypeId} {f0 f1 : Field} {n : Nat} {u : Value} {y : DataW H × List MemPlace} (ht : P.underlying t = some (.slice e)) (he : P.underlying e = some (.struct #[f0, f1])) (ce : P.cellsOf e = 2)
    (o0 : f0.offset = 0) (o1 : f1.offset = 1) (c0 : P.cellsOf f0.type = 1) (c1 : P.cellsOf f1.type = 1) (t0 : P.underlying f0.type = some (.int .i64)) (t1 : P.underlying f1.type = some (.int .i64))
    (h : DataW.trod enc P w 0 (fun _ => true) true n t [u] = some y) : ∃ A n c d, u = .slice A n c ∧ RdPointS w w.heap.size (.slice A n c) d := by
  obtain ⟨A, n, c, hu, hn, hb, Z, hZ⟩ := open_flat 2 (by omega) ht he ce (fun j hj => by
    match j, hj with
    | 0, _ => exact ⟨f0, rfl, o0, c0, t0⟩
    | 1, _ => exact ⟨f1, rfl, o1, c1, t1⟩) h
  refine ⟨A, n, c, (List.range n).map fun i => (Z i 0, Z i 1), by simpa using hu, A, n, c, rfl, hn, by rw [cP_length]; simp, fun h0 => ?_⟩
  obtain ⟨a, rfl, hab⟩ := hb h0
  refine ⟨a, rfl, hab, fun j v hv => ?_⟩
  have hj : j < n * 2 := by
    have := (List.getElem?_eq_some_iff.1 hv).1
    rw [cP_length] at this; simpa using this
  have h2 : j = (j / 2) * 2 + 0 ∨ j = (j / 2) * 2 + 1 := by omega
  have hk : j / 2 < n := by omega
  generalize j / 2 = k at h2 hk
  rcases h2 with rfl | rfl
  · rw [hZ a rfl k hk 0 (by omega), ← hv, Nat.add_zero, cP_get1 _ _ (by simpa using hk)]; simp [hk]
  · rw [hZ a rfl k hk 1 (by omega), ← hv, cP_get2 _ _ (by simpa using hk)]; simp [hk]

theorem field_PointSS {t t' e : TypeId} {f0 f1 : Field} {n : Nat} {u : Value} {y : DataW H × List MemPlace} (ht : P.underlying t = some (.slice t')) (ct : P.cellsOf t' = 1) (ht' : P.underlying t' = some (.slice e)) (he : P.underlying e = some (.struct #[f0, f1])) (ce : P.cellsOf e = 2)
    (o0 : f0.offset = 0) (o1 : f1.offset = 1) (c0 : P.cellsOf f0.type = 1) (c1 : P.cellsOf f1.type = 1) (t0 : P.underlying f0.type = some (.int .i64)) (t1 : P.underlying f1.type = some (.int .i64))
    (h : DataW.trod enc P w 0 (fun _ => true) true n t [u] = some y) : ∃ A n c d, u = .slice A n c ∧ RdPointSS w w.heap.size (.slice A n c) d := by
  rcases Go.Deep.open_slice ht h with ⟨hu, _⟩ | ⟨a, len, cap, m, n, D, Pl, hu, _, hl, hm, hmm, _, hx⟩
  · have : u = .slice none 0 0 := by simpa using hu
    exact ⟨_, _, _, [], this, _, _, _, [], rfl, by omega, ⟨rfl, fun h => by omega⟩, rfl, fun i hi => by omega⟩
  · have hu2 : u = .slice (some a) len cap := by simpa using hu
    simp only [if_true] at hmm
    unfold maxLen at hm
    have each : ∀ i, i < len → ∃ q : Value × List (Int × Int), w.cell? (a.add i) = some q.1 ∧ RdPointS w w.heap.size q.1 q.2 := by
      intro i hi
      obtain ⟨cs', h1, h2⟩ := hx i (by omega)
      rw [ct] at h1
      obtain ⟨_, hlen, hcell⟩ := World.cells?_some h1
      match cs', hlen with
      | [v], _ =>
        obtain ⟨A, n, c, d, rfl, r⟩ := field_PointS ht' he ce o0 o1 c0 c1 t0 t1 h2
        refine ⟨(_, d), ?_, r⟩
        have := hcell 0 (by omega)
        rw [Nat.mul_one, Go.Deep.add_add, Nat.add_zero] at this
        simpa using this
    obtain ⟨q, hq⟩ := Go.Deep.choose_lt each
    refine ⟨_, _, _, (List.range len).map fun i => (q i).2, hu2, _, _, _, (List.range len).map fun i => (q i).1, rfl, by omega, ⟨by simp, fun h0 => ⟨a, rfl, row_lt (hq 0 h0).1, fun j v hv => ?_⟩⟩, by simp, fun i hi => ?_⟩
    · have hj : j < len := by
        have := (List.getElem?_eq_some_iff.1 hv).1
        simpa using this
      simp [hj] at hv
      rw [← hv]; exact (hq j hj).1
    · simp only [List.getD_eq_getElem?_getD, List.getElem?_map, List.getElem?_range hi, Option.map_some, Option.getD_some]
      exact (hq i hi).2
end
end Go.Proofs.Ytlagkinamnjnhaa
