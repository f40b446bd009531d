/- Chapter 3 in the program: rows of nine. -/
import Derived.Test.YtbnobkojkfmccaaWalk4a
import Derived.Test.YtbnobkojkfmccaaRow9
namespace Go.Proofs.Ytbnobkojkfmccaa
open Go.RowKit
set_option maxRecDepth 100000

/-- nine zeros -/
def z9 : Array Value := #[.int .i64 0, .int .i64 0, .int .i64 0, .int .i64 0, .int .i64 0, .int .i64 0, .int .i64 0, .int .i64 0, .int .i64 0]
theorem z9_is : z9.toList = cI (List.replicate 9 0) := rfl
theorem ow_new9 (w : World) (cs : Array Value) (x : List Int) (e : Nat) (h : cs.toList = cI x) (hx : x.length = 9) : Ow (w.alloc (.cells cs e)) w.heap.size (w.heap.size + 1) e 1 (some ⟨w.heap.size, 0, none⟩) 9 9 (cI x) := by
  rw [← h]
  refine Ow.new w cs e 1 9 ?_
  have : cs.toList.length = 9 := by rw [h, cI_length]; exact hx
  simpa using this

set_option maxHeartbeats 1000000 in
theorem i_row_times (x : List Int) (v : Int) (w : World) (hl : x.length = 9) (hx : Nums x) (v0 : 0 ≤ v) (v1 : v ≤ 112) :
    Calls Try.prog 110 #[.agg (rv x), .int .i64 v] w fun e w' => e = .returned (.agg (rv (rt x v))) ∧ Below w.heap.size w w' := by
  have HX := Lib.hid hx
  have HL := Lib.hid hl
  have HO0 : Hid (Ow ((w.alloc (.cells (rv x) 110)).alloc (.cells z9 110)) w.heap.size (w.heap.size + 1) 110 1 (some ⟨w.heap.size, 0, none⟩) 9 9 (cI x)) := Lib.hid
    ((ow_new9 w (rv x) x _ (rv_toList x) hl).below ((Below.refl _ _).alloc (Nat.le_refl _) _) (by simp))
  have HQ0 : Hid (Ow ((w.alloc (.cells (rv x) 110)).alloc (.cells z9 110)) (w.heap.size + 1) (w.heap.size + 2) 110 1 (some ⟨w.heap.size + 1, 0, none⟩) 9 9 (cI (List.replicate 9 0))) := Lib.hid (by
    have := ow_new9 (w.alloc (.cells (rv x) 110)) z9 _ 110 z9_is rfl
    rw [World.size_alloc] at this; exact this)
  have HB0 : Hid (Below w.heap.size w ((w.alloc (.cells (rv x) 110)).alloc (.cells z9 110))) := Lib.hid (((Below.refl _ _).alloc (Nat.le_refl _) _).alloc (by simp) _)
  clear hx hl
  go_enter Try.func110, Try.ntmps110
  go_wp2
  go_loopw [6] (fun i wr => ∃ k : Nat, k ≤ 9 ∧ i = .int .i64 k ∧ Hid (Ow wr w.heap.size (w.heap.size + 1) 110 1 (some ⟨w.heap.size, 0, none⟩) 9 9 (cI (updJ (scaleF x v) x k))) ∧ Hid (Ow wr (w.heap.size + 1) (w.heap.size + 2) 110 1 (some ⟨w.heap.size + 1, 0, none⟩) 9 9 (cI (List.replicate 9 0))) ∧ Hid (Below w.heap.size w wr) ∧ Hid (w.heap.size + 2 ≤ wr.heap.size)) (fun i _ => 9 - (intOf i).toNat)
  case atStart => exact ⟨0, Nat.zero_le _, rfl, HO0, HQ0, HB0, Lib.hid (by simp)⟩
  case round =>
    clear HO0 HQ0 HB0
    obtain ⟨k, hk, rfl, HO, HQ, HB, HZ⟩ := hrel
    by_cases hlt : k < 9
    · obtain ⟨z, hcz, HR⟩ := HO.out.intAt hlt
      have hf := HO.out.free (by omega) k
      have HR2 : Hid (z = x.getD k 0) := Lib.hid (by rw [HR.out, updJ_get _ _ _ _ (by rw [HL.out]; omega), if_neg (by omega)])
      have z0 : 0 ≤ z := by rw [HR2.out]; exact (HX.out k).1
      have z1 : z ≤ 112 := by rw [HR2.out]; exact (HX.out k).2
      have HO2 : Hid (Ow (wr.setCell ⟨w.heap.size, k, none⟩ (.int .i64 (z * v % 113))) w.heap.size (w.heap.size + 1) 110 1 (some ⟨w.heap.size, 0, none⟩) 9 9 (cI (updJ (scaleF x v) x (k + 1)))) := Lib.hid (by
        have := HO.out.set k (.int .i64 (z * v % 113))
        rw [cI_set] at this
        rw [updJ, show scaleF x v k = z * v % 113 by rw [HR2.out]; rfl]; exact this)
      have HQ2 : Hid (Ow (wr.setCell ⟨w.heap.size, k, none⟩ (.int .i64 (z * v % 113))) (w.heap.size + 1) (w.heap.size + 2) 110 1 (some ⟨w.heap.size + 1, 0, none⟩) 9 9 (cI (List.replicate 9 0))) := Lib.hid
        (HQ.out.kept ((Kept.refl w.heap.size (w.heap.size + 1) wr).setCell (p := ⟨w.heap.size, k, none⟩) (Nat.le_refl _) (Nat.lt_succ_self _) _) HZ.out (.inl (Nat.le_refl _)))
      have HB2 := Lib.hid (HB.out.setCell (p := ⟨w.heap.size, k, none⟩) (Nat.le_refl _) (.int .i64 (z * v % 113)))
      have HZ2 : Hid (w.heap.size + 2 ≤ (wr.setCell ⟨w.heap.size, k, none⟩ (.int .i64 (z * v % 113))).heap.size) := Lib.hid (by rw [World.size_setCell]; exact HZ.out)
      clear HO HQ HB HZ
      have i0 : (0 : Int) ≤ (k : Int) := by omega
      have i1 : (k : Int) < 9 := by omega
      go_wp2_with (first | (go_at_call 89; refine (i_times _ _ _ z0 z1 v0 v1).mono ?_; rintro e w' ⟨rfl, rfl⟩) | go_in)
      go_roundw
      case rel => exact ⟨k + 1, by omega, by go_num, HO2, HQ2, HB2, HZ2⟩
      case measure => simp [intOf] <;> omega
    · obtain rfl : k = 9 := by omega
      have HLD := Lib.hid HO.out.r9
      obtain ⟨w5, hst, ho5, hk5, hz5⟩ := HQ.out.st9 (P := Try.prog) (x := rt x v) (by rw [rt_length]; exact HL.out)
      have HLD2 := Lib.hid ho5.r9
      have HB5 : Hid (Below w.heap.size w w5) := Lib.hid (HB.out.trans (hk5.to_below (by have := HZ.out; omega) |>.mono (by omega)))
      clear ho5 hk5 hz5
      change Hid (R9 wr w.heap.size 0 (rt x v)) at HLD
      have hsz : (rv (rt x v)).size = 9 := by rw [rv_size, rt_length]; exact HL.out
      go_wp2_with ((with_reducible refine wl9 (x := .tmp 2) ?_ ?_ ?_ HLD.out ?_); exact rfl; exact rfl; exact rfl)
      refine bodyPost_ret (v := .agg (rv (rt x v))) (res9 rfl rfl HLD2.out) rfl ⟨rfl, HB5.out⟩

set_option maxHeartbeats 1000000 in
theorem i_row_minus (x y : List Int) (w : World) (hl : x.length = 9) (hl2 : y.length = 9) (hx : Nums x) (hy : Nums y) :
    Calls Try.prog 112 #[.agg (rv x), .agg (rv y)] w fun e w' => e = .returned (.agg (rv (rm x y))) ∧ Below w.heap.size w w' := by
  have HX := Lib.hid hx
  have HY := Lib.hid hy
  have HL := Lib.hid hl
  have HO0 : Hid (Ow (((w.alloc (.cells (rv x) 110)).alloc (.cells (rv y) 110)).alloc (.cells z9 110)) w.heap.size (w.heap.size + 1) 110 1 (some ⟨w.heap.size, 0, none⟩) 9 9 (cI x)) := Lib.hid
    ((ow_new9 w (rv x) x _ (rv_toList x) hl).below (((Below.refl _ _).alloc (Nat.le_refl _) _).alloc (by simp) _) (by simp))
  have HY0 : Hid (Ow (((w.alloc (.cells (rv x) 110)).alloc (.cells (rv y) 110)).alloc (.cells z9 110)) (w.heap.size + 1) (w.heap.size + 2) 110 1 (some ⟨w.heap.size + 1, 0, none⟩) 9 9 (cI y)) := Lib.hid (by
    have := (ow_new9 (w.alloc (.cells (rv x) 110)) (rv y) y 110 (rv_toList y) hl2).below ((Below.refl _ _).alloc (Nat.le_refl _) (.cells z9 110)) (by simp)
    rw [World.size_alloc] at this; exact this)
  have HQ0 : Hid (Ow (((w.alloc (.cells (rv x) 110)).alloc (.cells (rv y) 110)).alloc (.cells z9 110)) (w.heap.size + 2) (w.heap.size + 3) 110 1 (some ⟨w.heap.size + 2, 0, none⟩) 9 9 (cI (List.replicate 9 0))) := Lib.hid (by
    have := ow_new9 ((w.alloc (.cells (rv x) 110)).alloc (.cells (rv y) 110)) z9 _ 110 z9_is rfl
    rw [World.size_alloc, World.size_alloc] at this; exact this)
  have HB0 : Hid (Below w.heap.size w (((w.alloc (.cells (rv x) 110)).alloc (.cells (rv y) 110)).alloc (.cells z9 110))) := Lib.hid ((((Below.refl _ _).alloc (Nat.le_refl _) _).alloc (by simp) _).alloc (by simp; omega) _)
  clear hx hl hl2 hy
  go_enter Try.func112, Try.ntmps112
  go_wp2
  go_loopw [6] (fun i wr => ∃ k : Nat, k ≤ 9 ∧ i = .int .i64 k ∧ Hid (Ow wr w.heap.size (w.heap.size + 1) 110 1 (some ⟨w.heap.size, 0, none⟩) 9 9 (cI (updJ (subF x y) x k))) ∧ Hid (Ow wr (w.heap.size + 1) (w.heap.size + 2) 110 1 (some ⟨w.heap.size + 1, 0, none⟩) 9 9 (cI y)) ∧ Hid (Ow wr (w.heap.size + 2) (w.heap.size + 3) 110 1 (some ⟨w.heap.size + 2, 0, none⟩) 9 9 (cI (List.replicate 9 0))) ∧ Hid (Below w.heap.size w wr) ∧ Hid (w.heap.size + 3 ≤ wr.heap.size)) (fun i _ => 9 - (intOf i).toNat)
  case atStart => exact ⟨0, Nat.zero_le _, rfl, HO0, HY0, HQ0, HB0, Lib.hid (by simp)⟩
  case round =>
    clear HO0 HY0 HQ0 HB0
    obtain ⟨k, hk, rfl, HO, HYO, HQ, HB, HZ⟩ := hrel
    by_cases hlt : k < 9
    · obtain ⟨z, hcz, HR⟩ := HO.out.intAt hlt
      obtain ⟨u, hcu, HU⟩ := HYO.out.intAt hlt
      have hf := HO.out.free (by omega) k
      have HR2 : Hid (z = x.getD k 0) := Lib.hid (by rw [HR.out, updJ_get _ _ _ _ (by rw [HL.out]; omega), if_neg (by omega)])
      have z0 : 0 ≤ z := by rw [HR2.out]; exact (HX.out k).1
      have z1 : z ≤ 112 := by rw [HR2.out]; exact (HX.out k).2
      have u0 : 0 ≤ u := by rw [HU.out]; exact (HY.out k).1
      have u1 : u ≤ 112 := by rw [HU.out]; exact (HY.out k).2
      have hkp := (Kept.refl w.heap.size (w.heap.size + 1) wr).setCell (p := ⟨w.heap.size, k, none⟩) (Nat.le_refl _) (Nat.lt_succ_self _) (.int .i64 ((z - u) % 113))
      have HO2 : Hid (Ow (wr.setCell ⟨w.heap.size, k, none⟩ (.int .i64 ((z - u) % 113))) w.heap.size (w.heap.size + 1) 110 1 (some ⟨w.heap.size, 0, none⟩) 9 9 (cI (updJ (subF x y) x (k + 1)))) := Lib.hid (by
        have := HO.out.set k (.int .i64 ((z - u) % 113))
        rw [cI_set] at this
        rw [updJ, show subF x y k = (z - u) % 113 by rw [HR2.out, HU.out]; rfl]; exact this)
      have HY2 : Hid (Ow (wr.setCell ⟨w.heap.size, k, none⟩ (.int .i64 ((z - u) % 113))) (w.heap.size + 1) (w.heap.size + 2) 110 1 (some ⟨w.heap.size + 1, 0, none⟩) 9 9 (cI y)) := Lib.hid
        (HYO.out.kept hkp (by have := HZ.out; omega) (.inl (Nat.le_refl _)))
      have HQ2 : Hid (Ow (wr.setCell ⟨w.heap.size, k, none⟩ (.int .i64 ((z - u) % 113))) (w.heap.size + 2) (w.heap.size + 3) 110 1 (some ⟨w.heap.size + 2, 0, none⟩) 9 9 (cI (List.replicate 9 0))) := Lib.hid
        (HQ.out.kept hkp HZ.out (.inl (by omega)))
      have HB2 := Lib.hid (HB.out.setCell (p := ⟨w.heap.size, k, none⟩) (Nat.le_refl _) (.int .i64 ((z - u) % 113)))
      have HZ2 : Hid (w.heap.size + 3 ≤ (wr.setCell ⟨w.heap.size, k, none⟩ (.int .i64 ((z - u) % 113))).heap.size) := Lib.hid (by rw [World.size_setCell]; exact HZ.out)
      clear HO HQ HB HZ HYO hkp
      have i0 : (0 : Int) ≤ (k : Int) := by omega
      have i1 : (k : Int) < 9 := by omega
      go_wp2
      go_still_tail 8, (by kernel_rfl)
      still_call (same_ (i_minus _ _ _ z0 z1 u0 u1))
      repeat still_step
      refine wpStill_nil ?_
      change wpList _ _ _ _ _ wr.drew
      go_wp2
      go_roundw
      case rel => exact ⟨k + 1, by omega, by go_num, Lib.hid HO2.out, Lib.hid HY2.out, Lib.hid HQ2.out, Lib.hid (below_drew HB2.out), HZ2⟩
      case measure => simp [intOf] <;> omega
    · obtain rfl : k = 9 := by omega
      have HLD := Lib.hid HO.out.r9
      obtain ⟨w5, hst, ho5, hk5, hz5⟩ := HQ.out.st9 (P := Try.prog) (x := rm x y) (by rw [rm_length]; exact HL.out)
      have HLD2 := Lib.hid ho5.r9
      have HB5 : Hid (Below w.heap.size w w5) := Lib.hid (HB.out.trans (hk5.to_below (by have := HZ.out; omega) |>.mono (by omega)))
      clear ho5 hk5 hz5
      change Hid (R9 wr w.heap.size 0 (rm x y)) at HLD
      have hsz : (rv (rm x y)).size = 9 := by rw [rv_size, rm_length]; exact HL.out
      go_wp2_with ((with_reducible refine wl9 (x := .tmp 2) ?_ ?_ ?_ HLD.out ?_); exact rfl; exact rfl; exact rfl)
      refine bodyPost_ret (v := .agg (rv (rm x y))) (res9 rfl rfl HLD2.out) rfl ⟨rfl, HB5.out⟩

theorem E9_upd (d : List Int) (r : Int) (n : Nat) (hn : d.length = n) (h8 : n ≤ 8) : updJ (fun j => d.getD j 0) ((List.replicate 9 0).set 8 r) n = E9 n (d ++ [r]) := by
  refine ext_getD (by rw [updJ_length, E9_length]; rfl) fun j hj => ?_
  have hj9 : j < 9 := by rw [updJ_length] at hj; exact hj
  rw [updJ_get _ _ _ _ (by simp; omega), E9_get _ _ _ hj9]
  by_cases h1 : j < n
  · rw [if_pos h1, if_pos h1, getD_app, if_pos (by omega)]
  · rw [if_neg h1, if_neg h1, getD_set1 _ _ _ _ _ (by simp)]
    by_cases h2 : j = 8
    · subst h2; rw [if_pos rfl, if_pos rfl, getD_app, if_neg (by omega), if_pos (by omega)]
    · rw [if_neg (fun e => h2 e.symm), if_neg h2, zeros_get]

set_option maxHeartbeats 1000000 in
theorem i_rowOf (A : Option Addr) (n c : Nat) (d : List Int) (r : Int) (w : World) (h : Rd w w.heap.size 1 A n (cI d)) (h8 : n ≤ 8) :
    Calls Try.prog 90 #[.slice A n c, .int .i64 r] w fun e w' => e = .returned (.agg (rv (E9 n (d ++ [r])))) ∧ Below w.heap.size w w' := by
  have H := Lib.hid h
  have HE := Lib.hid (E9_upd d r n h.len h8)
  have hl9 : ((List.replicate 9 (0 : Int)).set 8 r).length = 9 := by simp
  have HQ0 : Hid (Ow ((w.alloc (.cells z9 110)).alloc (.cells #[.int .i64 0, .int .i64 0, .int .i64 0, .int .i64 0, .int .i64 0, .int .i64 0, .int .i64 0, .int .i64 0, .int .i64 r] 110)) w.heap.size (w.heap.size + 1) 110 1 (some ⟨w.heap.size, 0, none⟩) 9 9 (cI (List.replicate 9 0))) := Lib.hid
    ((ow_new9 w z9 _ _ z9_is rfl).below ((Below.refl _ _).alloc (Nat.le_refl _) _) (by simp))
  have HO0 : Hid (Ow ((w.alloc (.cells z9 110)).alloc (.cells #[.int .i64 0, .int .i64 0, .int .i64 0, .int .i64 0, .int .i64 0, .int .i64 0, .int .i64 0, .int .i64 0, .int .i64 r] 110)) (w.heap.size + 1) (w.heap.size + 2) 110 1 (some ⟨w.heap.size + 1, 0, none⟩) 9 9 (cI ((List.replicate 9 0).set 8 r))) := Lib.hid (by
    have := ow_new9 (w.alloc (.cells z9 110)) #[.int .i64 0, .int .i64 0, .int .i64 0, .int .i64 0, .int .i64 0, .int .i64 0, .int .i64 0, .int .i64 0, .int .i64 r] ((List.replicate 9 0).set 8 r) 110 rfl hl9
    rw [World.size_alloc] at this; exact this)
  have HB0 : Hid (Below w.heap.size w ((w.alloc (.cells z9 110)).alloc (.cells #[.int .i64 0, .int .i64 0, .int .i64 0, .int .i64 0, .int .i64 0, .int .i64 0, .int .i64 0, .int .i64 0, .int .i64 r] 110))) := Lib.hid (((Below.refl _ _).alloc (Nat.le_refl _) _).alloc (by simp) _)
  clear h hl9
  go_enter Try.func90, Try.ntmps90
  go_wp2
  go_loopw [12] (fun i wr => ∃ k : Nat, k ≤ n ∧ i = .int .i64 k ∧ Hid (Ow wr (w.heap.size + 1) (w.heap.size + 2) 110 1 (some ⟨w.heap.size + 1, 0, none⟩) 9 9 (cI (updJ (fun j => d.getD j 0) ((List.replicate 9 0).set 8 r) k))) ∧ Hid (Ow wr w.heap.size (w.heap.size + 1) 110 1 (some ⟨w.heap.size, 0, none⟩) 9 9 (cI (List.replicate 9 0))) ∧ Hid (Below w.heap.size w wr) ∧ Hid (w.heap.size + 2 ≤ wr.heap.size)) (fun i _ => n - (intOf i).toNat)
  case atStart => exact ⟨0, Nat.zero_le _, rfl, HO0, HQ0, HB0, Lib.hid (by simp)⟩
  case round =>
    clear HO0 HQ0 HB0
    obtain ⟨k, hk, rfl, HO, HQ, HB, HZ⟩ := hrel
    by_cases hlt : k < n
    · obtain ⟨a, u, rfl, hab, hcu0, HU⟩ := H.out.intAt hlt
      have hcu := (HB.out.cell (p := a.add k) (by rw [add_block]; exact hab)).trans hcu0
      obtain ⟨z, hcz, _⟩ := HO.out.intAt (show k < 9 by omega)
      have hf := HO.out.free (by omega) k
      have hkp := (Kept.refl (w.heap.size + 1) (w.heap.size + 2) wr).setCell (p := ⟨w.heap.size + 1, k, none⟩) (Nat.le_refl _) (Nat.lt_succ_self _) (.int .i64 u)
      have HO2 : Hid (Ow (wr.setCell ⟨w.heap.size + 1, k, none⟩ (.int .i64 u)) (w.heap.size + 1) (w.heap.size + 2) 110 1 (some ⟨w.heap.size + 1, 0, none⟩) 9 9 (cI (updJ (fun j => d.getD j 0) ((List.replicate 9 0).set 8 r) (k + 1)))) := Lib.hid (by
        have := HO.out.set k (.int .i64 u)
        rw [cI_set] at this
        rw [updJ, ← HU.out]; exact this)
      have HQ2 : Hid (Ow (wr.setCell ⟨w.heap.size + 1, k, none⟩ (.int .i64 u)) w.heap.size (w.heap.size + 1) 110 1 (some ⟨w.heap.size, 0, none⟩) 9 9 (cI (List.replicate 9 0))) := Lib.hid
        (HQ.out.kept hkp (by have := HZ.out; omega) (.inr (Nat.le_refl _)))
      have HB2 := Lib.hid (HB.out.setCell (p := ⟨w.heap.size + 1, k, none⟩) (Nat.le_succ _) (.int .i64 u))
      have HZ2 : Hid (w.heap.size + 2 ≤ (wr.setCell ⟨w.heap.size + 1, k, none⟩ (.int .i64 u)).heap.size) := Lib.hid (by rw [World.size_setCell]; exact HZ.out)
      clear HO HQ HB HZ hkp hcu0
      have i0 : (0 : Int) ≤ (k : Int) := by omega
      have i1 : (k : Int) < (n : Int) := by omega
      have i9 : (k : Int) < 9 := by omega
      go_wp2
      go_roundw
      case rel => exact ⟨k + 1, by omega, by go_num, HO2, HQ2, HB2, HZ2⟩
      case measure => simp [intOf] <;> omega
    · obtain rfl : n = k := by omega
      have HLD := Lib.hid HO.out.r9
      rw [HE.out] at HLD
      obtain ⟨w5, hst, ho5, hk5, hz5⟩ := HQ.out.st9 (P := Try.prog) (x := E9 n (d ++ [r])) (E9_length _ _)
      have HLD2 := Lib.hid ho5.r9
      have HB5 : Hid (Below w.heap.size w w5) := Lib.hid (HB.out.trans (hk5.to_below (by have := HZ.out; omega) |>.mono (by omega)))
      clear ho5 hk5 hz5
      have hsz : (rv (E9 n (d ++ [r]))).size = 9 := by rw [rv_size]; exact E9_length _ _
      go_wp2_with ((with_reducible refine wl9 (x := .tmp 5) ?_ ?_ ?_ HLD.out ?_); exact rfl; exact rfl; exact rfl)
      refine bodyPost_ret (v := .agg (rv (E9 n (d ++ [r])))) (res9 rfl rfl HLD2.out) rfl ⟨rfl, HB5.out⟩
end Go.Proofs.Ytbnobkojkfmccaa
