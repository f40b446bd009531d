/- Chapter 2: points that are good, as the program sees them. -/
import Derived.Test.YtpaaimmakkfbkaaWalk2k
namespace Go.Proofs.Ytpaaimmakkfbkaa
open Go.RowKit
set_option maxRecDepth 100000

/-- 113 times no -/
def zz : Array Value := Array.replicate 113 (.bool false)
theorem zero113 (W : World) : (zeroValue 66).run Try.prog W = .ok (.agg zz) W := by kernel_rfl

theorem zz_size : zz.size = 113 := by simp [zz]
theorem store_self {P : Program} (w : World) (cs : Array Value) (t : TypeId) (h1 : ∀ v ∈ cs.toList, v.oneCell' = true) :
    (storeCells ⟨w.heap.size, 0, none⟩ cs.toList).run P (w.alloc (.cells cs t)) = .ok () (w.alloc (.cells cs t)) := by
  have h := run_storeCells_at (P := P) w.heap.size 0 t cs.toList 0 cs (w.alloc (.cells cs t)) (heap_alloc_new _ _) (by simp) h1
  rw [h]
  have e : (cs.toList.take (0 + 0) ++ cs.toList ++ cs.toList.drop (0 + 0 + cs.toList.length)).toArray = cs := by rw [List.drop_of_length_le (by simp)]; simp
  rw [e, setRow_self _ _ cs t (0, 0) (heap_alloc_new _ _)]
theorem zz_one : ∀ v ∈ zz.toList, v.oneCell' = true := by
  intro v hv
  simp only [zz, Array.toList_replicate, List.mem_replicate] at hv
  rw [hv.2]; rfl
/-- the row of marks: at each number whether it is among the first k -/
def Marks (w : World) (B : Nat) (ps : List (Int × Int)) (k : Nat) : Prop :=
  ∃ cs, w.heap[B]? = some (.cells cs 66 (0, 0)) ∧ cs.size = 113 ∧ ∀ j : Nat, j < 113 → cs[j]? = some (.bool (seenB ps k (j : Int)))
theorem Marks.cell {w : World} {B : Nat} {ps : List (Int × Int)} {k : Nat} (h : Marks w B ps k) {j : Nat} (hj : j < 113) : w.cell? ⟨B, j, none⟩ = some (.bool (seenB ps k (j : Int))) := by
  obtain ⟨cs, hb, _, hc⟩ := h
  rw [cell_of_row w B j cs _ (0, 0) hb]; exact hc j hj
theorem Marks.free {w : World} {B : Nat} {ps : List (Int × Int)} {k : Nat} (h : Marks w B ps k) (j : Nat) : w.frozen? ⟨B, j, none⟩ = false := by
  obtain ⟨cs, hb, _, _⟩ := h
  exact frozen_of_row w B j cs _ hb
theorem Marks.lt {w : World} {B : Nat} {ps : List (Int × Int)} {k : Nat} (h : Marks w B ps k) : B < w.heap.size := by
  obtain ⟨cs, hb, _, _⟩ := h
  exact (Array.getElem?_eq_some_iff.1 hb).1
theorem Marks.new (w : World) (ps : List (Int × Int)) : Marks (w.alloc (.cells zz 66)) w.heap.size ps 0 :=
  ⟨zz, heap_alloc_new _ _, zz_size, fun j hj => by simp [zz, hj, seenB]⟩
theorem Marks.alloc {w : World} {B : Nat} {ps : List (Int × Int)} {k : Nat} (h : Marks w B ps k) (o : Obj) : Marks (w.alloc o) B ps k := by
  have hl := h.lt
  obtain ⟨cs, hb, r⟩ := h
  exact ⟨cs, by rw [Below.heap_alloc _ _ _ hl]; exact hb, r⟩
theorem Marks.set {w : World} {B : Nat} {ps : List (Int × Int)} {k j : Nat} (h : Marks w B ps k) (hx : px ps k = (j : Int)) : Marks (w.setCell ⟨B, j, none⟩ (.bool true)) B ps (k + 1) := by
  obtain ⟨cs, hb, hs, hc⟩ := h
  refine ⟨cs.setIfInBounds j (.bool true), heap_setCell_same w B j cs _ _ hb, by simpa using hs, fun i hi => ?_⟩
  rw [Array.getElem?_setIfInBounds]
  by_cases he : j = i
  · subst he
    rw [if_pos rfl, if_pos (by omega), seenB_succ, hx]; simp
  · rw [if_neg he, hc i hi, seenB_succ, hx]
    have : ((j : Int) == (i : Int)) = false := by rw [beq_eq_false_iff_ne]; omega
    rw [this, Bool.or_false]

set_option maxHeartbeats 400000 in
theorem i_Point_ok (x y : Int) (w : World) :
    Calls Try.prog 37 #[.agg #[.int .i64 x, .int .i64 y]] w fun e w' => e = .returned (.bool (numB x && numB y)) ∧ w' = w.alloc (.cells #[.int .i64 x, .int .i64 y] 46) := by
  cases hbx : numB x
  all_goals
    go_enter Try.func37, Try.ntmps37
    go_wp2_with (first | (go_at_call 13; refine (i_NumOk _ _).mono ?_; rintro e w' ⟨rfl, rfl⟩) | go_in)
    go_ret
    exact ⟨by simp [*], rfl⟩

set_option maxRecDepth 100000 in
set_option maxHeartbeats 1000000 in
theorem i_pointsOk (A : Option Addr) (n c : Nat) (ps : List (Int × Int)) (w : World) (h : Rd w w.heap.size 2 A n (cP ps)) (hn : n ≤ 1048576) :
    Calls Try.prog 31 #[.slice A n c] w fun e w' => e = .returned (.bool (ptsB ps)) ∧ Below w.heap.size w w' := by
  have hlen := Lib.hid h.plen
  have H := Lib.hid h
  clear h
  by_cases h20 : n ≤ 20
  · have HB : Hid (ptsB ps = okK ps n) := Lib.hid (by rw [ptsB_okK (by rw [hlen.out]; exact h20), hlen.out])
    have t20 : decide ((20 : Int) < (n : Int)) = false := by simp; omega
    have hz := zero113
    have hzs := zz_size
    have hst := fun W : World => store_self (P := Try.prog) W zz 66 zz_one
    go_enter Try.func31, Try.ntmps31
    go_wp2
    clear hz hst
    go_loopw [12] (fun i wr => ∃ k : Nat, k ≤ n ∧ i = .int .i64 k ∧ Hid (okK ps k = true) ∧ Hid (Marks wr w.heap.size ps k) ∧ Hid (Below w.heap.size w wr)) (fun i _ => n - (intOf i).toNat)
    case atStart => exact ⟨0, Nat.zero_le _, rfl, Lib.hid rfl, Lib.hid (Marks.new _ _), Lib.hid ((Below.refl _ _).alloc (Nat.le_refl _) _)⟩
    case round =>
      obtain ⟨k, hk, rfl, HK, HM, HS⟩ := hrel
      by_cases hlt : k < n
      · obtain ⟨a, x, y, rfl, hab, hx0, hy0, HP⟩ := H.out.ptAt hlt
        have hx := (HS.out.cell (p := a.add (k * 2)) (by rw [add_block]; exact hab)).trans hx0
        have hy := (HS.out.cell (p := ⟨(a.add (k * 2)).block, (a.add (k * 2)).off + 1, none⟩) (by rw [add_block]; exact hab)).trans hy0
        have HXY := Lib.hid (pxy HP.out)
        clear hx0 hy0
        have HMa := Lib.hid ((HM.out.alloc (.cells #[.int .i64 x, .int .i64 y] 46)).alloc (.cells #[.int .i64 x, .int .i64 y] 46))
        have HSa := Lib.hid ((HS.out.alloc HS.out.size (.cells #[.int .i64 x, .int .i64 y] 46)).alloc (by have := HS.out.size; simp; omega) (.cells #[.int .i64 x, .int .i64 y] 46))
        clear HM HS
        cases hbx : numB x
        · have HPO : Hid ((numB x && numB y) = false) := Lib.hid (by rw [hbx]; rfl)
          have HF : Hid (false = ptsB ps) := Lib.hid (by
            rw [HB.out, okK_bad (k := k) (by rw [okK_step, HXY.out.1, hbx]; simp) hlt])
          go_wp2_with fail
          refine (i_Point_ok _ _ _).mono ?_
          rintro e w' ⟨rfl, rfl⟩
          rw [HPO.out]
          go_wp2
          go_ret
          exact ⟨ret_bool HF.out, HSa.out⟩
        · cases hby : numB y
          · have HPO : Hid ((numB x && numB y) = false) := Lib.hid (by rw [hbx, hby]; rfl)
            have HF : Hid (false = ptsB ps) := Lib.hid (by
              rw [HB.out, okK_bad (k := k) (by rw [okK_step, HXY.out.2, hby]; simp) hlt])
            go_wp2_with fail
            refine (i_Point_ok _ _ _).mono ?_
            rintro e w' ⟨rfl, rfl⟩
            rw [HPO.out]
            go_wp2
            go_ret
            exact ⟨ret_bool HF.out, HSa.out⟩
          · have HN := Lib.hid (And.intro hbx hby)
            have hxr := (numB_iff x).1 hbx
            obtain ⟨j, rfl⟩ := Int.eq_ofNat_of_zero_le hxr.1
            have HPO : Hid ((numB (j : Int) && numB y) = true) := Lib.hid (by rw [HN.out.1, HN.out.2]; rfl)
            have hj : j < 113 := by omega
            clear hxr
            have hc := HMa.out.cell hj
            have hf := HMa.out.free j
            cases hs : seenB ps k (j : Int)
            · rw [hs] at hc
              have HK2 : Hid (okK ps (k + 1) = true) := Lib.hid (by
                rw [okK_step, HK.out, HXY.out.1, HXY.out.2, HN.out.1, HN.out.2, hs]; rfl)
              have HM2 := Lib.hid (HMa.out.set HXY.out.1)
              have HS2 := Lib.hid (HSa.out.setCell (p := ⟨w.heap.size, j, none⟩) (Nat.le_refl _) (.bool true))
              clear hs HMa HSa
              go_wp2_with fail
              refine (i_Point_ok _ _ _).mono ?_
              rintro e w' ⟨rfl, rfl⟩
              rw [HPO.out]
              go_wp2
              go_roundw
              case rel => exact ⟨k + 1, by omega, by go_num, HK2, HM2, HS2⟩
              case measure => simp [intOf] <;> omega
            · rw [hs] at hc
              have HF : Hid (false = ptsB ps) := Lib.hid (by
                rw [HB.out, okK_bad (k := k) (by rw [okK_step, HXY.out.1, hs]; simp) hlt])
              clear hs
              go_wp2_with fail
              refine (i_Point_ok _ _ _).mono ?_
              rintro e w' ⟨rfl, rfl⟩
              rw [HPO.out]
              go_wp2
              go_ret
              exact ⟨ret_bool HF.out, HSa.out⟩
      · have HF : Hid (true = ptsB ps) := Lib.hid (by rw [HB.out, ← HK.out, show k = n by omega])
        go_wp2
        go_ret
        exact ⟨ret_bool HF.out, HS.out⟩
  · have HF : Hid (false = ptsB ps) := Lib.hid (ptsB_long (by rw [hlen.out]; exact h20)).symm
    go_enter Try.func31, Try.ntmps31
    go_wp2
    go_ret
    exact ⟨ret_bool HF.out, Below.refl _ _⟩
end Go.Proofs.Ytpaaimmakkfbkaa
