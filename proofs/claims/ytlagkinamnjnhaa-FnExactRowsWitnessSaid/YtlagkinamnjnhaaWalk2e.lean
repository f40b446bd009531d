/- Chapter 2: the program's helpers that pad, trim and add. -/
import Derived.Test.YtlagkinamnjnhaaWalk2d
import Derived.Laws.CopyOwn
import Derived.StillTailTactics
namespace Go.Proofs.Ytlagkinamnjnhaa
open Go.RowKit
set_option maxRecDepth 100000

/-- k coefficients added from idx on -/
def addAtK (zs : List Int) (idx : Nat) (ys : List Int) (x : Int) : Nat → List Int
  | 0 => zs
  | k + 1 => (addAtK zs idx ys x k).set (idx + k) (((addAtK zs idx ys x k).getD (idx + k) 0 + ys.getD k 0 * x) % 113)
theorem addAtK_length (zs : List Int) (idx : Nat) (ys : List Int) (x : Int) (k : Nat) : (addAtK zs idx ys x k).length = zs.length := by
  induction k with
  | zero => rfl
  | succ k ih => simp only [addAtK, List.length_set, ih]
theorem getD_set (zs : List Int) (i j : Nat) (a : Int) : (zs.set i a).getD j 0 = if i = j ∧ j < zs.length then a else zs.getD j 0 := by
  simp only [List.getD_eq_getElem?_getD, List.getElem?_set]
  by_cases h : i = j
  · subst h
    by_cases h2 : i < zs.length <;> simp [h2]
  · simp [h]
theorem nums_set {zs : List Int} (h : Nums zs) (i : Nat) (a : Int) (h0 : 0 ≤ a) (h1 : a ≤ 112) : Nums (zs.set i a) := by
  intro j
  rw [getD_set]
  split
  · exact ⟨h0, h1⟩
  · exact h j
theorem nums_addAtK {zs : List Int} (h : Nums zs) (idx : Nat) (ys : List Int) (x : Int) (k : Nat) : Nums (addAtK zs idx ys x k) := by
  induction k with
  | zero => exact h
  | succ k ih => exact nums_set ih _ _ (by omega) (by omega)

theorem same_ {P : Program} {f : FuncId} {args : Array Value} {w : World} {v : Value} (h : Calls P f args w fun e w' => e = .returned v ∧ w = w') : Calls P f args w fun e w'' => e = .returned v ∧ w'' = w :=
  h.mono fun _ _ ⟨he, hm⟩ => ⟨he, hm.symm⟩

set_option maxRecDepth 100000 in
set_option maxHeartbeats 1000000 in
theorem i_addAt (A A' : Option Addr) (n c n' c' lo hi idx : Nat) (zs ys : List Int) (x : Int) (w : World) (h : Ow w lo hi 3 1 A n c (cI zs)) (h' : Rd w lo 1 A' n' (cI ys)) (hz : Nums zs) (hy : Nums ys) (hi2 : hi ≤ w.heap.size)
    (hn : n ≤ 1048576) (hfit : idx + n' ≤ n) (x0 : 0 ≤ x) (x1 : x ≤ 112) :
    Calls Try.prog 69 #[.slice A n c, .int .i64 idx, .slice A' n' c', .int .i64 x] w fun e w' => e = .returned (.tuple #[]) ∧ Ow w' lo hi 3 1 A n c (cI (addAtK zs idx ys x n')) ∧ Kept lo hi w w' ∧ w'.heap.size = w.heap.size := by
  have hlen : Hid (zs.length = n) := Lib.hid h.len
  have H := Lib.hid h
  have H' := Lib.hid h'
  have HZ := Lib.hid hz
  have HY := Lib.hid hy
  clear h h' hz hy
  go_enter Try.func69, Try.ntmps69
  go_wp2
  go_loopw [12] (fun i wr => ∃ k : Nat, k ≤ n' ∧ i = .int .i64 k ∧ Hid (Ow wr lo hi 3 1 A n c (cI (addAtK zs idx ys x k))) ∧ Hid (Kept lo hi w wr) ∧ Hid (wr.heap.size = w.heap.size)) (fun i _ => n' - (intOf i).toNat)
  case atStart => exact ⟨0, Nat.zero_le _, rfl, H, Lib.hid (Kept.refl _ _ _), Lib.hid rfl⟩
  case round =>
    obtain ⟨k, hk, rfl, HO, HK, HS⟩ := hrel
    by_cases hlt : k < n'
    · obtain ⟨g, cs, hA, g1, g2, _, _⟩ := HO.out.lt (show 0 < n by omega)
      subst hA
      obtain ⟨a, y, rfl, hab, hcy0, HQ⟩ := H'.out.intAt hlt
      have hcy : wr.cell? (a.add k) = some (.int .i64 y) := ((HK.out.to_below (by omega)).cell (p := a.add k) (by rw [add_block]; exact hab)).trans hcy0
      obtain ⟨z, hcz, HR⟩ := HO.out.intAt (show idx + k < n by omega)
      have hf := HO.out.free (by omega) (idx + k)
      have z0 : 0 ≤ z := by rw [HR.out]; exact (nums_addAtK HZ.out idx ys x k (idx + k)).1
      have z1 : z ≤ 112 := by rw [HR.out]; exact (nums_addAtK HZ.out idx ys x k (idx + k)).2
      have y0 : 0 ≤ y := by rw [HQ.out]; exact (HY.out k).1
      have y1 : y ≤ 112 := by rw [HQ.out]; exact (HY.out k).2
      have p0 : 0 ≤ y * x % 113 := by omega
      have p1 : y * x % 113 ≤ 112 := by omega
      have HO2 : Hid (Ow (wr.setCell ⟨g, idx + k, none⟩ (.int .i64 ((z + y * x) % 113))).drew lo hi 3 1 (some ⟨g, 0, none⟩) n c (cI (addAtK zs idx ys x (k + 1)))) := Lib.hid (by
        have := HO.out.set (idx + k) (.int .i64 ((z + y * x) % 113))
        rw [cI_set] at this
        show Ow (wr.setCell ⟨g, idx + k, none⟩ (.int .i64 ((z + y * x) % 113))) lo hi 3 1 (some ⟨g, 0, none⟩) n c _
        rw [addAtK, ← HR.out, ← HQ.out]
        exact this)
      clear HO hcy0
      have i0 : (0 : Int) ≤ (idx : Int) + (k : Int) := by omega
      have i1 : (idx : Int) + (k : Int) < (n : Int) := by omega
      have iw : IntKind.i64.wrap ((idx : Int) + (k : Int)) = (idx : Int) + (k : Int) := IntWalk.i64_in _ (by omega)
      have it : ((idx : Int) + (k : Int)).toNat = idx + k := by omega
      go_wp2
      go_still_tail 15, (by kernel_rfl)
      still_call (same_ (i_times _ _ _ y0 y1 x0 x1))
      still_call (same_ (i_plus _ _ _ z0 z1 p0 p1))
      repeat still_step
      refine wpStill_nil ?_
      change wpList _ _ _ _ _ wr.drew
      clear iw it
      have HK2 : Hid (Kept lo hi w ((wr.setCell ⟨g, idx + k, none⟩ (.int .i64 ((z + y * x) % 113))).drewN 1)) := Lib.hid ((HK.out.setCell (p := ⟨g, idx + k, none⟩) g1 g2 _).drewN 1)
      have HS2 : Hid ((wr.setCell ⟨g, idx + k, none⟩ (.int .i64 ((z + y * x) % 113))).heap.size = w.heap.size) := Lib.hid (by rw [World.size_setCell]; exact HS.out)
      clear HK HS HR HQ
      go_wp2
      go_roundw
      case rel => exact ⟨k + 1, by omega, by go_num, HO2, HK2, HS2⟩
      case measure => simp [intOf] <;> omega
    · have hkn : k = n' := by omega
      have HO2 : Hid (Ow wr lo hi 3 1 A n c (cI (addAtK zs idx ys x n'))) := Lib.hid (by rw [← hkn]; exact HO.out)
      clear HO hkn
      go_wp2
      go_end0
      exact ⟨rfl, HO2.out, HK.out, HS.out⟩

/-- zeros behind -/
def padL (zs : List Int) (m : Nat) : List Int := zs ++ List.replicate (m - zs.length) 0
theorem padL_get (zs : List Int) (m j : Nat) : (padL zs m).getD j 0 = zs.getD j 0 := by
  unfold padL
  by_cases h : j < zs.length
  · simp [List.getElem?_append_left h]
  · simp only [List.getD_eq_getElem?_getD, List.getElem?_append_right (show zs.length ≤ j by omega), List.getElem?_eq_none (show zs.length ≤ j by omega)]
    by_cases h2 : j - zs.length < m - zs.length
    · simp [h2]
    · simp [h2]
theorem padL_length (zs : List Int) (m : Nat) (h : zs.length ≤ m) : (padL zs m).length = m := by simp [padL]; omega
theorem nums_pad {zs : List Int} (h : Nums zs) (m : Nat) : Nums (padL zs m) := fun j => by rw [padL_get]; exact h j
theorem size1_int : ((Try.prog.info? 3).map (·.size)) = some 1 := by kernel_rfl
theorem splice_pad (zs : List Int) (m : Nat) : splice (List.replicate m (Value.int .i64 0)) 0 (cI zs) = cI (padL zs m) := by
  simp [splice, cI, padL]

/-- a cut at its end, whatever its capacity then -/
theorem Ow.cut {w : World} {lo hi e n c k c' : Nat} {A : Option Addr} {zs : List Int} (h : Ow w lo hi e 1 A n c (cI zs)) (hk : k ≤ n) (hc : k ≤ c') : Ow w lo hi e 1 A k c' (cI (zs.take k)) := by
  have hl := h.len
  refine ⟨by rw [cI_length, List.length_take]; omega, hc, ?_⟩
  rcases h.2.2 with h0 | ⟨g, cs, hA, h1, h2, hg, ht⟩
  · exact .inl (by omega)
  · refine .inr ⟨g, cs, hA, h1, h2, hg, ?_⟩
    have e : cI (zs.take k) = (cI zs).take k := by simp [cI, List.map_take]
    rw [e, ← ht, List.take_take, Nat.mul_one, Nat.mul_one, Nat.min_eq_left hk]

set_option maxHeartbeats 400000 in
theorem i_trimmed (A : Option Addr) (n c lo hi : Nat) (zs : List Int) (w : World) (h : Ow w lo hi 3 1 A n c (cI zs)) (hn : n ≤ 1048576) :
    Calls Try.prog 70 #[.slice A n c] w fun e w' => ∃ v, e = .returned v ∧ OwIntS w lo hi v (trimL zs) ∧ w = w' := by
  have hlen : Hid (zs.length = n) := Lib.hid h.len
  have hnc : n ≤ c := h.2.1
  have H := Lib.hid h
  clear h
  go_enter Try.func70, Try.ntmps70
  go_wp2
  go_loop [3] (fun i => ∃ k : Nat, k ≤ n ∧ i = .int .i64 k ∧ Hid (trimL (zs.take k) = trimL zs)) (fun i => (intOf i).toNat)
  case atStart => exact ⟨n, Nat.le_refl _, rfl, Lib.hid (by rw [List.take_of_length_le (by have := hlen.out; omega)])⟩
  case round =>
    obtain ⟨k, hk, rfl, HI⟩ := hrel
    by_cases h0 : k = 0
    · subst h0
      have HF : Hid (zs.take 0 = trimL zs) := Lib.hid (by rw [← HI.out]; rfl)
      clear HI
      cases A
      all_goals
        have HO := Lib.hid (H.out.cut (Nat.zero_le n) (Nat.zero_le 0))
        rw [HF.out] at HO
        have HL : Hid ((trimL zs).length ≤ 1048576) := Lib.hid (by rw [← HF.out]; simp)
        clear HF
        go_wp2
        go_ret
        exact ⟨_, rfl, ⟨HL.out, _, _, _, rfl, HO.out⟩, rfl⟩
    · obtain ⟨m, rfl⟩ : ∃ m, k = m + 1 := ⟨k - 1, by omega⟩
      obtain ⟨a, z, rfl, hab, hck, HZ⟩ := H.out.rd.intAt (show m < n by omega)
      by_cases hz : z = 0
      · have hz1 : (z == 0) = true := by rw [hz]; rfl
        have HI2 : Hid (trimL (zs.take m) = trimL zs) := Lib.hid (by
          rw [← HI.out, trimL_down zs m (by have := hlen.out; omega) (HZ.out.symm.trans hz)])
        clear HI hz
        go_wp2
        go_round
        case rel => exact ⟨m, by omega, by go_num, HI2⟩
        case measure => simp [intOf] <;> omega
      · have hz1 : (z == 0) = false := by rw [beq_eq_false_iff_ne]; exact hz
        have HF : Hid (zs.take (m + 1) = trimL zs) := Lib.hid (by
          rw [← HI.out, trimL_stop zs m (by have := hlen.out; omega) (by rw [← HZ.out]; exact hz)])
        clear HI hz
        have HO := Lib.hid (H.out.cut hk (Nat.le_refl (m + 1)))
        rw [HF.out] at HO
        have HL : Hid ((trimL zs).length ≤ 1048576) := Lib.hid (by rw [← HF.out, List.length_take]; omega)
        clear HF
        go_wp2
        go_ret
        exact ⟨_, rfl, ⟨HL.out, _, _, _, rfl, HO.out⟩, rfl⟩
end Go.Proofs.Ytlagkinamnjnhaa
