/- Chapter 4: SharesExplain, in the model and in the program; a list that begins inside its block. -/
import Derived.Test.YtipdflbnnmghdaaWalk5a
import Derived.Test.YtipdflbnnmghdaaWalk3a
namespace Go.Proofs.Ytipdflbnnmghdaa
open Go.RowKit
set_option maxRecDepth 100000

/-- The slice (A, n) of ints lies in a block of its own between lo and hi, from wherever in it; or it holds nothing. -/
def OwT (w : World) (lo hi : Nat) (A : Option Addr) (n : Nat) (xs : List Value) : Prop :=
  xs.length = n ∧ (n = 0 ∨ ∃ g o cs, A = some ⟨g, o, none⟩ ∧ lo ≤ g ∧ g < hi ∧ w.heap[g]? = some (.cells cs 3 (0, 0)) ∧ (cs.toList.drop o).take n = xs)
section
variable {w w' : World} {lo hi lo' hi' n g o j : Nat} {A : Option Addr} {xs : List Value} {zs : List Int}
theorem OwT.lt (h : OwT w lo hi A n xs) (hn : 0 < n) : ∃ g o cs, A = some ⟨g, o, none⟩ ∧ lo ≤ g ∧ g < hi ∧ w.heap[g]? = some (.cells cs 3 (0, 0)) ∧ (cs.toList.drop o).take n = xs := by
  rcases h.2 with h0 | h1
  · omega
  · exact h1
theorem addr_add (g o j : Nat) : (⟨g, o, none⟩ : Addr).add j = ⟨g, o + j, none⟩ := by unfold Addr.add; split <;> simp_all
theorem cut_get {cs : Array Value} {u : Value} (ht : (cs.toList.drop o).take n = xs) (hj : xs[j]? = some u) : cs[o + j]? = some u := by
  rw [← ht, List.getElem?_take] at hj
  split at hj
  · rw [List.getElem?_drop] at hj; simpa using hj
  · cases hj
theorem OwT.cellAt {u : Value} (h : OwT w lo hi (some ⟨g, o, none⟩) n xs) (hj : xs[j]? = some u) : w.cell? ⟨g, o + j, none⟩ = some u := by
  have hn : 0 < n := by have := h.1; have := (List.getElem?_eq_some_iff.1 hj).1; omega
  obtain ⟨g', o', cs, hA, _, _, hb, ht⟩ := h.lt hn
  injection hA with hA; injection hA with h1 h2; subst h1; subst h2
  rw [cell_of_row w g (o + j) cs 3 (0, 0) hb]
  exact cut_get ht hj
theorem OwT.free (h : OwT w lo hi (some ⟨g, o, none⟩) n xs) (hn : 0 < n) (j : Nat) : w.frozen? ⟨g, j, none⟩ = false := by
  obtain ⟨g', o', cs, hA, _, _, hb, _⟩ := h.lt hn
  injection hA with hA; injection hA with h1 h2; subst h1; subst h2
  exact frozen_of_row w g j cs 3 hb
theorem OwT.rd (h : OwT w lo hi A n xs) : Rd w hi 1 A n xs := by
  refine ⟨by have := h.1; omega, fun hn => ?_⟩
  obtain ⟨g, o, cs, rfl, hl, hh, hb, ht⟩ := h.lt hn
  refine ⟨_, rfl, hh, fun j u hu => ?_⟩
  rw [addr_add, cell_of_row w g (o + j) cs 3 (0, 0) hb]
  exact cut_get ht hu
theorem OwT.below {B : Nat} (h : OwT w lo hi A n xs) (hk : Below B w w') (hz : hi ≤ B) : OwT w' lo hi A n xs := by
  refine ⟨h.1, ?_⟩
  rcases h.2 with h0 | ⟨g, o, cs, rfl, a, b, hb, r⟩
  · exact .inl h0
  · exact .inr ⟨g, o, cs, rfl, a, b, by rw [hk.block g (by omega)]; exact hb, r⟩
theorem OwT.kept {mid : Nat} (h : OwT w lo hi A n xs) (hk : Kept lo' mid w w') (hz : hi ≤ w.heap.size) (hd : mid ≤ lo ∨ hi ≤ lo') : OwT w' lo hi A n xs := by
  refine ⟨h.1, ?_⟩
  rcases h.2 with h0 | ⟨g, o, cs, rfl, a, b, hb, r⟩
  · exact .inl h0
  · exact .inr ⟨g, o, cs, rfl, a, b, by rw [hk.block g (by omega) (by omega)]; exact hb, r⟩
theorem OwT.widen (h : OwT w lo hi A n xs) (h1 : lo' ≤ lo) (h2 : hi ≤ hi') : OwT w lo' hi' A n xs := by
  refine ⟨h.1, ?_⟩
  rcases h.2 with h0 | ⟨g, o, cs, rfl, a, b, r⟩
  · exact .inl h0
  · exact .inr ⟨g, o, cs, rfl, by omega, by omega, r⟩
theorem OwT.set (h : OwT w lo hi (some ⟨g, o, none⟩) n xs) (j : Nat) (u : Value) : OwT (w.setCell ⟨g, o + j, none⟩ u) lo hi (some ⟨g, o, none⟩) n (xs.set j u) := by
  refine ⟨by simpa using h.1, ?_⟩
  rcases h.2 with h0 | ⟨g', o', cs, hA, a, b, hb, ht⟩
  · exact .inl h0
  · have hA' := hA
    injection hA with hA; injection hA with h1 h2; subst h1; subst h2
    refine .inr ⟨g, o, cs.setIfInBounds (o + j) u, rfl, a, b, heap_setCell_same w g (o + j) cs 3 u hb, ?_⟩
    rw [Array.toList_setIfInBounds, List.drop_set, if_neg (by omega), Nat.add_sub_cancel_left, List.take_set, ht]
theorem OwT.len (h : OwT w lo hi A n (cI zs)) : zs.length = n := by have := h.1; rw [cI_length] at this; omega
end
def OwIntT (w : World) (lo hi : Nat) (v : Value) (d : List Int) : Prop := d.length ≤ 1048576 ∧ ∃ A n c, v = .slice A n c ∧ OwT w lo hi A n (cI d)
section
variable {w w' : World} {lo hi lo' hi' B mid : Nat} {v : Value} {d : List Int}
theorem OwIntT.small (h : OwIntT w lo hi v d) : szIntS d ≤ 1048576 := h.1
theorem OwIntT.rd (h : OwIntT w lo hi v d) : RdIntS w hi v d := by
  obtain ⟨hs, A, n, c, rfl, r⟩ := h
  exact ⟨A, n, c, rfl, by have := r.len; omega, r.rd⟩
theorem OwIntT.below (h : OwIntT w lo hi v d) (hb : Below B w w') (hz : hi ≤ B) : OwIntT w' lo hi v d := by
  obtain ⟨hs, A, n, c, rfl, r⟩ := h; exact ⟨hs, A, n, c, rfl, r.below hb hz⟩
theorem OwIntT.kept (h : OwIntT w lo hi v d) (hk : Kept lo' mid w w') (hz : hi ≤ w.heap.size) (hd : mid ≤ lo ∨ hi ≤ lo') : OwIntT w' lo hi v d := by
  obtain ⟨hs, A, n, c, rfl, r⟩ := h; exact ⟨hs, A, n, c, rfl, r.kept hk hz hd⟩
theorem OwIntT.widen (h : OwIntT w lo hi v d) (h1 : lo' ≤ lo) (h2 : hi ≤ hi') : OwIntT w lo' hi' v d := by
  obtain ⟨hs, A, n, c, rfl, r⟩ := h; exact ⟨hs, A, n, c, rfl, r.widen h1 h2⟩
theorem OwIntT.nil_ (w : World) (lo hi : Nat) : OwIntT w lo hi (.slice none 0 0) [] := ⟨by simp, none, 0, 0, rfl, by simp [cI], .inl rfl⟩
end

set_option maxHeartbeats 400000 in
theorem l_markIntT (A : Option Addr) (n c lo hi : Nat) (zs : List Int) (K : Int) (w : World) (h : OwT w lo hi A n (cI zs)) (hn : n ≤ 1048576) (hK : 0 ≤ K) (hK2 : K ≤ 1000000000000) :
    Calls Try.prog 23 #[.slice A n c, .int .i64 K] w fun e w' => e = .returned (.int .i64 (K + n)) ∧ OwT w' lo hi A n (cI (iota K n)) ∧ Kept lo hi w w' ∧ w'.heap.size = w.heap.size := by
  have hlen : Hid (zs.length = n) := Lib.hid h.len
  have H := Lib.hid h
  clear h
  go_enter Try.func23, Try.ntmps23
  go_wp2
  go_loopw [1, 5] (fun kk i wr => ∃ k : Nat, k ≤ n ∧ i = .int .i64 k ∧ kk = .int .i64 (K + k) ∧ Hid (OwT wr lo hi A n (cI (iota K k ++ zs.drop k))) ∧ Hid (Kept lo hi w wr) ∧ Hid (wr.heap.size = w.heap.size)) (fun _ i _ => n - (intOf i).toNat)
  case atStart => exact ⟨0, Nat.zero_le _, rfl, by go_num, H, Lib.hid (Kept.refl _ _ _), Lib.hid rfl⟩
  case round =>
    obtain ⟨k, hk, rfl, rfl, HO, HB, HZ⟩ := hrel
    by_cases hlt : k < n
    · obtain ⟨g, o, cs, hA, g1, g2, _, _⟩ := HO.out.lt (by omega)
      subst hA
      have hd : wr.cell? ⟨g, o + k, none⟩ = some (.int .i64 ((iota K k ++ zs.drop k).getD k 0)) := HO.out.cellAt (cI_get _ _ (by simp [iota_length]; have := hlen.out; omega))
      have hf := HO.out.free (by omega) (o + k)
      have HO2 := Lib.hid (HO.out.set k (.int .i64 (K + k)))
      rw [cI_set, mark_step K hlen.out hlt] at HO2
      have HB2 := Lib.hid (HB.out.setCell (p := ⟨g, o + k, none⟩) g1 g2 (.int .i64 (K + k)))
      have HZ2 : Hid ((wr.setCell ⟨g, o + k, none⟩ (.int .i64 (K + k))).heap.size = w.heap.size) := Lib.hid (by rw [World.size_setCell]; exact HZ.out)
      clear HO HB HZ
      have i0 : (0 : Int) ≤ (k : Int) := by omega
      have i1 : (k : Int) < (n : Int) := by omega
      go_wp2
      go_roundw
      case rel => exact ⟨k + 1, by omega, by go_num, by go_num, HO2, HB2, HZ2⟩
      case measure => simp [intOf] <;> omega
    · have hkn : k = n := by omega
      have HO2 : Hid (OwT wr lo hi A n (cI (iota K n))) := Lib.hid (by
        have := HO.out; rw [hkn, List.drop_of_length_le (by have := hlen.out; omega), List.append_nil] at this; exact this)
      have HR : Hid (K + (k : Int) = K + (n : Int)) := Lib.hid (by rw [hkn])
      clear HO hkn
      go_wp2
      go_ret
      exact ⟨ret_int HR.out, HO2.out, HB.out, HZ.out⟩
theorem L_markIntT (lo hi : Nat) (v : Value) (d : List Int) (K : Int) (w : World) (h : OwIntT w lo hi v d) (_hz : hi ≤ w.heap.size) (hK : 0 ≤ K) (hK2 : K ≤ 1000000000) :
    Calls Try.prog 23 #[v, .int .i64 K] w fun e w' => ∃ K', e = .returned (.int .i64 K') ∧ Hid (K' = K + szIntS d) ∧ 0 ≤ K' ∧ K' ≤ K + 1048576 ∧ OwIntT w' lo hi v (mkIntS K d) ∧ Kept lo hi w w' := by
  obtain ⟨hs, A, n, c, rfl, r⟩ := h
  have hl := r.len
  refine (l_markIntT A n c lo hi d K w r (by omega) hK (by omega)).mono fun e w' ⟨he, ho, hk, _⟩ => ?_
  refine ⟨_, he, Lib.hid (by unfold szIntS; omega), by omega, by omega, ⟨by rw [mkIntS, iota_length]; exact hs, _, _, _, rfl, ?_⟩, hk⟩
  unfold mkIntS; rw [hl]; exact ho
theorem L_eqIntT (hi hi' : Nat) (v v' : Value) (d : List Int) (w : World) (h : RdIntS w hi v d) (h' : RdIntS w hi' v' d) (hh : hi ≤ w.heap.size) (hh' : hi' ≤ w.heap.size) (hs : szIntS d ≤ 1048576) :
    Calls Try.prog 22 #[v, v'] w fun e w' => e = .returned (.bool true) ∧ Below w.heap.size w w' := L_eqIntS hi hi' v v' d w h h' hh hh' hs
theorem L_heldIntT (hi : Nat) (v : Value) (d : List Int) (K q : Int) (w : World) (h : RdIntS w hi v (mkIntS K d)) (hz : hi ≤ w.heap.size) (hs : szIntS d ≤ 1048576) (hq : Hid (q = K)) (hK : 0 ≤ K) (hK2 : K ≤ 1000000000) :
    Calls Try.prog 35 #[v, .int .i64 q] w fun e w' => ∃ K', e = .returned (.int .i64 K') ∧ Hid (K' = K + szIntS d) ∧ 0 ≤ K' ∧ K' ≤ K + 1048576 ∧ Below w.heap.size w w' := L_heldIntS hi v d K q w h hz hs hq hK hK2

/-! what both say -/
def expB (s : Int) (d : List (Int × Int)) : Bool := numB s && (decide (d.length ≤ 6) && shB d 7)
def expL (s : Int) (d : List (Int × Int)) : List Int := (List.range d.length).map fun i => (thrS ((0, s) :: d) (1 + d.length) (1 + d.length)).getD (i + 1) 0
def R_SharesExplain_1 (s : Int) (d : List (Int × Int)) : Bool := expB s d
def R_SharesExplain_0 (s : Int) (d : List (Int × Int)) : List Int := if expB s d = true then expL s d else []
theorem expL_length (s : Int) (d : List (Int × Int)) : (expL s d).length = d.length := by simp [expL]
theorem expL_get (s : Int) (d : List (Int × Int)) (i : Nat) (h : i < d.length) : (expL s d).getD i 0 = (thrS ((0, s) :: d) (1 + d.length) (1 + d.length)).getD (i + 1) 0 := by
  simp [expL, h]
theorem exp_good {s : Int} {d : List (Int × Int)} (hs : numB s = true) (h : shB d 7 = true) (_h6 : d.length ≤ 6) : Good ((0, s) :: d) (1 + d.length) := by
  simp only [shB, Bool.and_eq_true] at h
  have hg := (shB_good rfl h.1).1
  have hx := fun i (hi : i < d.length) => xsK_at h.2 hi
  have hsr := (numB_iff s).1 hs
  have p0 : px ((0, s) :: d) 0 = 0 := rfl
  have q0 : py ((0, s) :: d) 0 = s := rfl
  have p1 : ∀ i, px ((0, s) :: d) (i + 1) = px d i := fun i => by simp [px]
  have q1 : ∀ i, py ((0, s) :: d) (i + 1) = py d i := fun i => by simp [py]
  refine ⟨fun i hi => ?_, fun i hi => ?_, fun i j hi hj hij => ?_⟩
  · cases i with
    | zero => rw [p0]; omega
    | succ i => rw [p1]; exact hg.x0 i (by omega)
  · cases i with
    | zero => rw [q0]; exact hsr
    | succ i => rw [q1]; exact hg.y0 i (by omega)
  · cases i with
    | zero =>
      cases j with
      | zero => exact absurd rfl hij
      | succ j => rw [p0, p1]; have := hx j (by omega); omega
    | succ i =>
      cases j with
      | zero => rw [p0, p1]; have := hx i (by omega); omega
      | succ j => rw [p1, p1]; exact hg.ne i j (by omega) (by omega) (by omega)
theorem cP_one (ps : List (Int × Int)) : ∀ u ∈ cP ps, u.oneCell' = true := by
  intro u hu
  simp only [cP, List.mem_flatMap] at hu
  obtain ⟨p, _, hp⟩ := hu
  simp at hp
  rcases hp with rfl | rfl <;> rfl
end Go.Proofs.Ytipdflbnnmghdaa
