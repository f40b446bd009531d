/- Lists of structs of 4 ints (Twin): as cells; what reads and what is owned; the laws' helpers over them. Made by tools/genflat.py. -/
import Derived.Test.YtdhakbpimbadgaaFaceI
import Derived.Test.YtdhakbpimbadgaaPts
import Derived.StillTailTactics
namespace Go.Proofs.Ytdhakbpimbadgaa
open Go.RowKit
set_option maxRecDepth 100000

def cTwin (ps : List (Int × Int × Int × Int)) : List Value := ps.flatMap fun p => [.int .i64 (p.1), .int .i64 (p.2.1), .int .i64 (p.2.2.1), .int .i64 (p.2.2.2)]
theorem cTwin_length (ps : List (Int × Int × Int × Int)) : (cTwin ps).length = ps.length * 4 := by
  induction ps with
  | nil => rfl
  | cons p t ih => simp only [cTwin, List.flatMap_cons, List.length_append, List.length_cons, List.length_nil] at *; omega
theorem cTwin_cons (p : Int × Int × Int × Int) (t : List (Int × Int × Int × Int)) : cTwin (p :: t) = .int .i64 (p.1) :: .int .i64 (p.2.1) :: .int .i64 (p.2.2.1) :: .int .i64 (p.2.2.2) :: cTwin t := rfl
theorem cTwin_get0 (ps : List (Int × Int × Int × Int)) (k : Nat) (h : k < ps.length) : (cTwin ps)[k * 4]? = some (.int .i64 ((ps.getD k (0, 0, 0, 0)).1)) := by
  induction ps generalizing k with
  | nil => simp at h
  | cons p t ih =>
    cases k with
    | zero => simp [cTwin_cons]
    | succ k => rw [cTwin_cons, show (k + 1) * 4 = k * 4 + 1 + 1 + 1 + 1 by omega, List.getElem?_cons_succ, List.getElem?_cons_succ, List.getElem?_cons_succ, List.getElem?_cons_succ, ih k (by simpa using h)]; rfl
theorem cTwin_get1 (ps : List (Int × Int × Int × Int)) (k : Nat) (h : k < ps.length) : (cTwin ps)[k * 4 + 1]? = some (.int .i64 ((ps.getD k (0, 0, 0, 0)).2.1)) := by
  induction ps generalizing k with
  | nil => simp at h
  | cons p t ih =>
    cases k with
    | zero => simp [cTwin_cons]
    | succ k => rw [cTwin_cons, show (k + 1) * 4 + 1 = k * 4 + 1 + 1 + 1 + 1 + 1 by omega, List.getElem?_cons_succ, List.getElem?_cons_succ, List.getElem?_cons_succ, List.getElem?_cons_succ, ih k (by simpa using h)]; rfl
theorem cTwin_get2 (ps : List (Int × Int × Int × Int)) (k : Nat) (h : k < ps.length) : (cTwin ps)[k * 4 + 2]? = some (.int .i64 ((ps.getD k (0, 0, 0, 0)).2.2.1)) := by
  induction ps generalizing k with
  | nil => simp at h
  | cons p t ih =>
    cases k with
    | zero => simp [cTwin_cons]
    | succ k => rw [cTwin_cons, show (k + 1) * 4 + 2 = k * 4 + 2 + 1 + 1 + 1 + 1 by omega, List.getElem?_cons_succ, List.getElem?_cons_succ, List.getElem?_cons_succ, List.getElem?_cons_succ, ih k (by simpa using h)]; rfl
theorem cTwin_get3 (ps : List (Int × Int × Int × Int)) (k : Nat) (h : k < ps.length) : (cTwin ps)[k * 4 + 3]? = some (.int .i64 ((ps.getD k (0, 0, 0, 0)).2.2.2)) := by
  induction ps generalizing k with
  | nil => simp at h
  | cons p t ih =>
    cases k with
    | zero => simp [cTwin_cons]
    | succ k => rw [cTwin_cons, show (k + 1) * 4 + 3 = k * 4 + 3 + 1 + 1 + 1 + 1 by omega, List.getElem?_cons_succ, List.getElem?_cons_succ, List.getElem?_cons_succ, List.getElem?_cons_succ, ih k (by simpa using h)]; rfl
theorem cTwin_set (ps : List (Int × Int × Int × Int)) (k : Nat) (x : Int) (y : Int) (z : Int) (u : Int) : ((((cTwin ps).set (k * 4) (.int .i64 x)).set (k * 4 + 1) (.int .i64 y)).set (k * 4 + 2) (.int .i64 z)).set (k * 4 + 3) (.int .i64 u) = cTwin (ps.set k (x, y, z, u)) := by
  induction ps generalizing k with
  | nil => rfl
  | cons p t ih =>
    cases k with
    | zero => rfl
    | succ k =>
      have e0 : (k + 1) * 4 = k * 4 + 1 + 1 + 1 + 1 := by omega
      have e1 : (k + 1) * 4 + 1 = k * 4 + 1 + 1 + 1 + 1 + 1 := by omega
      have e2 : (k + 1) * 4 + 2 = k * 4 + 2 + 1 + 1 + 1 + 1 := by omega
      have e3 : (k + 1) * 4 + 3 = k * 4 + 3 + 1 + 1 + 1 + 1 := by omega
      rw [cTwin_cons, e3, e2, e1, e0, List.set_cons_succ, List.set_cons_succ, List.set_cons_succ, List.set_cons_succ, List.set_cons_succ, List.set_cons_succ, List.set_cons_succ, List.set_cons_succ, List.set_cons_succ, List.set_cons_succ, List.set_cons_succ, List.set_cons_succ, List.set_cons_succ, List.set_cons_succ, List.set_cons_succ, List.set_cons_succ, ih k, List.set_cons_succ, cTwin_cons]

theorem Rd.Twinlen {w : World} {hi n : Nat} {A : Option Addr} {ps : List (Int × Int × Int × Int)} (h : Rd w hi 4 A n (cTwin ps)) : ps.length = n := by have := h.1; rw [cTwin_length] at this; omega
theorem Ow.Twinlen {w : World} {lo hi e n c : Nat} {A : Option Addr} {ps : List (Int × Int × Int × Int)} (h : Ow w lo hi e 4 A n c (cTwin ps)) : ps.length = n := by have := h.1; rw [cTwin_length] at this; omega
theorem Rd.TwinAt {w : World} {hi n k : Nat} {A : Option Addr} {ps : List (Int × Int × Int × Int)} (h : Rd w hi 4 A n (cTwin ps)) (hk : k < n) :
    ∃ (a : Addr) (x : Int) (y : Int) (z : Int) (u : Int), A = some a ∧ a.block < hi ∧ w.cell? (a.add (k * 4)) = some (.int .i64 x) ∧ w.cell? ⟨(a.add (k * 4)).block, (a.add (k * 4)).off + 1, none⟩ = some (.int .i64 y) ∧ w.cell? ⟨(a.add (k * 4)).block, (a.add (k * 4)).off + 2, none⟩ = some (.int .i64 z) ∧ w.cell? ⟨(a.add (k * 4)).block, (a.add (k * 4)).off + 3, none⟩ = some (.int .i64 u) ∧ Hid (ps.getD k (0, 0, 0, 0) = (x, y, z, u)) := by
  obtain ⟨a, e, hb, hc⟩ := h.2 (by omega)
  have hl := h.Twinlen
  exact ⟨a, _, _, _, _, e, hb, hc _ _ (cTwin_get0 ps k (by omega)), by rw [add_next _ _ _ (by omega)]; exact hc _ _ (cTwin_get1 ps k (by omega)), by rw [add_next _ _ _ (by omega)]; exact hc _ _ (cTwin_get2 ps k (by omega)), by rw [add_next _ _ _ (by omega)]; exact hc _ _ (cTwin_get3 ps k (by omega)), Lib.hid rfl⟩

set_option maxHeartbeats 400000 in
theorem l_eqTwin (x : Int) (y : Int) (z : Int) (u : Int) (w : World) :
    Calls Try.prog 65 #[.agg #[.int .i64 x, .int .i64 y, .int .i64 z, .int .i64 u], .agg #[.int .i64 x, .int .i64 y, .int .i64 z, .int .i64 u]] w fun e w' => e = .returned (.bool true) ∧ Below w.heap.size w w' := by
  go_enter Try.func65, Try.ntmps65
  go_wp2
  go_ret
  exact ⟨rfl, ((Below.refl _ _).alloc (Nat.le_refl _) _).alloc (by simp) _⟩

set_option maxHeartbeats 1000000 in
theorem l_eqTwinS (A A' : Option Addr) (n c c' : Nat) (ps : List (Int × Int × Int × Int)) (w : World) (h : Rd w w.heap.size 4 A n (cTwin ps)) (h' : Rd w w.heap.size 4 A' n (cTwin ps)) (hn : n ≤ 1048576) :
    Calls Try.prog 22 #[.slice A n c, .slice A' n c'] w fun e w' => e = .returned (.bool true) ∧ Below w.heap.size w w' := by
  have H := Lib.hid h
  have H' := Lib.hid h'
  clear h h'
  go_enter Try.func22, Try.ntmps22
  go_wp2
  go_loopw [5] (fun i wr => ∃ k : Nat, k ≤ n ∧ i = .int .i64 k ∧ Hid (Below w.heap.size w wr)) (fun i _ => n - (intOf i).toNat)
  case atStart => exact ⟨0, Nat.zero_le _, rfl, Lib.hid (Below.refl _ _)⟩
  case round =>
    obtain ⟨k, hk, rfl, HB⟩ := hrel
    by_cases hlt : k < n
    · obtain ⟨a, x, y, z, u, rfl, hab, hcx0, hcy0, hcz0, hcu0, HP⟩ := H.out.TwinAt hlt
      obtain ⟨a', x', y', z', u', rfl, hab', hdx0, hdy0, hdz0, hdu0, HP'⟩ := H'.out.TwinAt hlt
      obtain ⟨rfl, rfl, rfl, rfl⟩ : x' = x ∧ y' = y ∧ z' = z ∧ u' = u := by have := HP.out.symm.trans HP'.out; simpa using this.symm
      have i0 : (0 : Int) ≤ (k : Int) := by omega
      have i1 : (k : Int) < (n : Int) := by omega
      have hcx := (HB.out.cell (p := a.add (k * 4)) (by rw [add_block]; exact hab)).trans hcx0
      have hcy := (HB.out.cell (p := ⟨(a.add (k * 4)).block, (a.add (k * 4)).off + 1, none⟩) (by rw [add_block]; exact hab)).trans hcy0
      have hcz := (HB.out.cell (p := ⟨(a.add (k * 4)).block, (a.add (k * 4)).off + 2, none⟩) (by rw [add_block]; exact hab)).trans hcz0
      have hcu := (HB.out.cell (p := ⟨(a.add (k * 4)).block, (a.add (k * 4)).off + 3, none⟩) (by rw [add_block]; exact hab)).trans hcu0
      have hdx := (HB.out.cell (p := a'.add (k * 4)) (by rw [add_block]; exact hab')).trans hdx0
      have hdy := (HB.out.cell (p := ⟨(a'.add (k * 4)).block, (a'.add (k * 4)).off + 1, none⟩) (by rw [add_block]; exact hab')).trans hdy0
      have hdz := (HB.out.cell (p := ⟨(a'.add (k * 4)).block, (a'.add (k * 4)).off + 2, none⟩) (by rw [add_block]; exact hab')).trans hdz0
      have hdu := (HB.out.cell (p := ⟨(a'.add (k * 4)).block, (a'.add (k * 4)).off + 3, none⟩) (by rw [add_block]; exact hab')).trans hdu0
      clear hcx0 hcy0 hcz0 hcu0 hdx0 hdy0 hdz0 hdu0
      go_wp2
      go_still_tail 8, (by kernel_rfl)
      change wpList _ _ _ _ _ wr.drew
      go_wp2_with fail
      refine (l_eqTwin _ _ _ _ _).mono ?_
      rintro e w2 ⟨rfl, hb⟩
      have HB2 : Hid (Below w.heap.size w w2) := Lib.hid (HB.out.drew.trans (hb.mono HB.out.size))
      clear hcx hcy hcz hcu hdx hdy hdz hdu hb HB
      go_wp2
      go_roundw
      case rel => exact ⟨k + 1, by omega, by go_num, HB2⟩
      case measure => simp [intOf] <;> omega
    · go_wp2
      go_ret
      exact ⟨rfl, HB.out⟩

theorem info_Twin : (Try.prog.info? 76).map (fun i => (i.zero, i.size, i.bytes)) = some (some (.agg #[.int .i64 0, .int .i64 0, .int .i64 0, .int .i64 0]), 4, 32) := by kernel_rfl
theorem made_Twin (n : Nat) : (madeCells #[.int .i64 0, .int .i64 0, .int .i64 0, .int .i64 0] (n * 4)).toList = cTwin (List.replicate n (0, 0, 0, 0)) := by
  apply List.ext_getElem?
  intro j
  by_cases hj : j < n * 4
  · obtain ⟨k, hk⟩ : ∃ k, j / 4 = k := ⟨_, rfl⟩
    have h2 : j = k * 4 ∨ j = k * 4 + 1 ∨ j = k * 4 + 2 ∨ j = k * 4 + 3 := by omega
    have hkn : k < (List.replicate n ((0, 0, 0, 0) : Int × Int × Int × Int)).length := by rw [List.length_replicate]; omega
    have hkn2 : k < n := by omega
    clear hk
    rcases h2 with rfl | rfl | rfl | rfl
    · rw [cTwin_get0 _ k hkn]; simp [madeCells, hj, hkn2, show (k * 4) % 4 = 0 by omega]
    · rw [cTwin_get1 _ k hkn]; simp [madeCells, hj, hkn2, show (k * 4 + 1) % 4 = 1 by omega]
    · rw [cTwin_get2 _ k hkn]; simp [madeCells, hj, hkn2, show (k * 4 + 2) % 4 = 2 by omega]
    · rw [cTwin_get3 _ k hkn]; simp [madeCells, hj, hkn2, show (k * 4 + 3) % 4 = 3 by omega]
  · rw [List.getElem?_eq_none (by simp [madeCells]; omega), List.getElem?_eq_none (by rw [cTwin_length, List.length_replicate]; omega)]
theorem copy_Twin {ps : List (Int × Int × Int × Int)} {n k : Nat} {x : Int} {y : Int} {z : Int} {u : Int} (hz : ps.length = n) (hk : k < n) (hp : ps.getD k (0, 0, 0, 0) = (x, y, z, u)) : (ps.take k ++ List.replicate (n - k) (0, 0, 0, 0)).set k (x, y, z, u) = ps.take (k + 1) ++ List.replicate (n - (k + 1)) (0, 0, 0, 0) := by
  have hl : (ps.take k).length = k := by simp; omega
  rw [List.set_append_right _ _ (by omega), hl, Nat.sub_self, show n - k = (n - (k + 1)) + 1 by omega, List.replicate_succ]
  have hk' : k < ps.length := by omega
  rw [List.set_cons_zero, List.take_succ_eq_append_getElem hk', List.append_assoc, List.singleton_append]
  have : ps[k] = (x, y, z, u) := by rw [← hp]; simp [hk']
  rw [this]
/-- one stored -/
theorem Ow.setTwin {w : World} {lo hi e n c g k : Nat} {ps : List (Int × Int × Int × Int)} (h : Ow w lo hi e 4 (some ⟨g, 0, none⟩) n c (cTwin ps)) (x : Int) (y : Int) (z : Int) (u : Int) :
    Ow ((((w.setCell ⟨g, k * 4, none⟩ (.int .i64 x)).setCell ⟨g, k * 4 + 1, none⟩ (.int .i64 y)).setCell ⟨g, k * 4 + 2, none⟩ (.int .i64 z)).setCell ⟨g, k * 4 + 3, none⟩ (.int .i64 u)) lo hi e 4 (some ⟨g, 0, none⟩) n c (cTwin (ps.set k (x, y, z, u))) := by
  have := ((((h.set (k * 4) (.int .i64 x)).set (k * 4 + 1) (.int .i64 y)).set (k * 4 + 2) (.int .i64 z)).set (k * 4 + 3) (.int .i64 u))
  rw [cTwin_set] at this; exact this

/-- marked one behind the other -/
def iotaTwin (K : Int) (n : Nat) : List (Int × Int × Int × Int) := (List.range n).map fun i : Nat => (K + 4 * (i : Int), K + 4 * (i : Int) + 1, K + 4 * (i : Int) + 1 + 1, K + 4 * (i : Int) + 1 + 1 + 1)
theorem iotaTwin_length (K : Int) (n : Nat) : (iotaTwin K n).length = n := by simp [iotaTwin]
theorem iotaTwin_succ (K : Int) (n : Nat) : iotaTwin K (n + 1) = iotaTwin K n ++ [(K + 4 * (n : Int), K + 4 * (n : Int) + 1, K + 4 * (n : Int) + 1 + 1, K + 4 * (n : Int) + 1 + 1 + 1)] := by simp [iotaTwin, List.range_succ]
theorem iotaTwin_get (K : Int) (n k : Nat) (h : k < n) : (iotaTwin K n).getD k (0, 0, 0, 0) = (K + 4 * (k : Int), K + 4 * (k : Int) + 1, K + 4 * (k : Int) + 1 + 1, K + 4 * (k : Int) + 1 + 1 + 1) := by simp [iotaTwin, h]
theorem mark_Twin {ps : List (Int × Int × Int × Int)} {n k : Nat} (K : Int) (hz : ps.length = n) (hk : k < n) : (iotaTwin K k ++ ps.drop k).set k (K + 4 * (k : Int), K + 4 * (k : Int) + 1, K + 4 * (k : Int) + 1 + 1, K + 4 * (k : Int) + 1 + 1 + 1) = iotaTwin K (k + 1) ++ ps.drop (k + 1) := by
  have hl := iotaTwin_length K k
  have hk' : k < ps.length := by omega
  rw [List.set_append_right _ _ (by omega), hl, Nat.sub_self, iotaTwin_succ, List.append_assoc, List.drop_eq_getElem_cons hk', List.set_cons_zero, List.singleton_append]

set_option maxHeartbeats 1000000 in
theorem l_markTwinS (A : Option Addr) (n c lo hi : Nat) (ps : List (Int × Int × Int × Int)) (K : Int) (w : World) (h : Ow w lo hi 76 4 A n c (cTwin ps)) (hn : n ≤ 1048576) (hK : 0 ≤ K) (hK2 : K ≤ 1000000000000) :
    Calls Try.prog 23 #[.slice A n c, .int .i64 K] w fun e w' => e = .returned (.int .i64 (K + 4 * n)) ∧ Ow w' lo hi 76 4 A n c (cTwin (iotaTwin K n)) ∧ Kept lo hi w w' := by
  have hlen : Hid (ps.length = n) := Lib.hid h.Twinlen
  have H := Lib.hid h
  clear h
  go_enter Try.func23, Try.ntmps23
  go_wp2
  go_loopw [1, 5] (fun kk i wr => ∃ k : Nat, k ≤ n ∧ i = .int .i64 k ∧ kk = .int .i64 (K + 4 * k) ∧ Hid (Ow wr lo hi 76 4 A n c (cTwin (iotaTwin K k ++ ps.drop k))) ∧ Hid (Kept lo hi w wr)) (fun _ i _ => n - (intOf i).toNat)
  case atStart => exact ⟨0, Nat.zero_le _, rfl, by go_num, H, Lib.hid (Kept.refl _ _ _)⟩
  case round =>
    obtain ⟨k, hk, rfl, rfl, HO, HB⟩ := hrel
    by_cases hlt : k < n
    · obtain ⟨g, cs, hA, g1, g2, _, _⟩ := HO.out.lt (by omega)
      subst hA
      have hlen2 : (cTwin (iotaTwin K k ++ ps.drop k)).length = n * 4 := HO.out.1
      obtain ⟨u0, hu0⟩ : ∃ u, wr.cell? ⟨g, k * 4, none⟩ = some u := ⟨_, HO.out.cellAt (List.getElem?_eq_getElem (by omega))⟩
      obtain ⟨u1, hu1⟩ : ∃ u, wr.cell? ⟨g, k * 4 + 1, none⟩ = some u := ⟨_, HO.out.cellAt (List.getElem?_eq_getElem (by omega))⟩
      obtain ⟨u2, hu2⟩ : ∃ u, wr.cell? ⟨g, k * 4 + 2, none⟩ = some u := ⟨_, HO.out.cellAt (List.getElem?_eq_getElem (by omega))⟩
      obtain ⟨u3, hu3⟩ : ∃ u, wr.cell? ⟨g, k * 4 + 3, none⟩ = some u := ⟨_, HO.out.cellAt (List.getElem?_eq_getElem (by omega))⟩
      have hf0 := HO.out.free (by omega) (k * 4)
      have hf1 := HO.out.free (by omega) (k * 4 + 1)
      have hf2 := HO.out.free (by omega) (k * 4 + 2)
      have hf3 := HO.out.free (by omega) (k * 4 + 3)
      have HO2 := Lib.hid (HO.out.setTwin (k := k) (K + 4 * (k : Int)) (K + 4 * (k : Int) + 1) (K + 4 * (k : Int) + 1 + 1) (K + 4 * (k : Int) + 1 + 1 + 1))
      rw [mark_Twin K hlen.out hlt] at HO2
      have HB2 := Lib.hid ((((HB.out.setCell (p := ⟨g, k * 4, none⟩) g1 g2 (.int .i64 (K + 4 * (k : Int)))).setCell (p := ⟨g, k * 4 + 1, none⟩) g1 g2 (.int .i64 (K + 4 * (k : Int) + 1))).setCell (p := ⟨g, k * 4 + 2, none⟩) g1 g2 (.int .i64 (K + 4 * (k : Int) + 1 + 1))).setCell (p := ⟨g, k * 4 + 3, none⟩) g1 g2 (.int .i64 (K + 4 * (k : Int) + 1 + 1 + 1)))
      clear HO HB hlen2
      go_wp2
      go_roundw
      case rel => exact ⟨k + 1, by omega, by go_num, by go_num, HO2, HB2⟩
      case measure => simp [intOf] <;> omega
    · have hkn : k = n := by omega
      have HO2 : Hid (Ow wr lo hi 76 4 A n c (cTwin (iotaTwin K n))) := Lib.hid (by
        have := HO.out; rw [hkn, List.drop_of_length_le (by have := hlen.out; omega), List.append_nil] at this; exact this)
      have HR : Hid (K + 4 * (k : Int) = K + 4 * (n : Int)) := Lib.hid (by rw [hkn])
      clear HO hkn
      go_wp2
      go_ret
      exact ⟨ret_int HR.out, HO2.out, HB.out⟩

set_option maxHeartbeats 1000000 in
theorem l_heldTwinS (A : Option Addr) (n c hi : Nat) (K : Int) (w : World) (h : Rd w hi 4 A n (cTwin (iotaTwin K n))) (hn : n ≤ 1048576) (hK : 0 ≤ K) (hK2 : K ≤ 1000000000000) :
    Calls Try.prog 24 #[.slice A n c, .int .i64 K] w fun e w' => e = .returned (.int .i64 (K + 4 * n)) ∧ Still w w' := by
  have H := Lib.hid h
  clear h
  go_enter Try.func24, Try.ntmps24
  go_wp2
  go_loopw [1, 5] (fun kk i wr => ∃ k m : Nat, k ≤ n ∧ i = .int .i64 k ∧ kk = .int .i64 (K + 4 * k) ∧ wr = w.drewN m) (fun _ i _ => n - (intOf i).toNat)
  case atStart => exact ⟨0, 0, Nat.zero_le _, rfl, by go_num, rfl⟩
  case round =>
    obtain ⟨k, m, hk, rfl, rfl, rfl⟩ := hrel
    by_cases hlt : k < n
    · obtain ⟨a, x, y, z, u, rfl, hab, hcx, hcy, hcz, hcu, HP⟩ := H.out.TwinAt hlt
      have hp := HP.out
      rw [iotaTwin_get K n k hlt] at hp
      injection hp with hp0 hq1
      injection hq1 with hp1 hq2
      injection hq2 with hp2 hp3
      subst hp0
      subst hp1
      subst hp2
      subst hp3
      have i0 : (0 : Int) ≤ (k : Int) := by omega
      have i1 : (k : Int) < (n : Int) := by omega
      clear HP
      go_wp2
      repeat (go_quiet (fail); go_wp2)
      go_roundw
      case rel => exact ⟨k + 1, _, by omega, by go_num, by go_num, rfl⟩
      case measure => simp [intOf] <;> omega
    · have hkn : k = n := by omega
      have HR : Hid (K + 4 * (k : Int) = K + 4 * (n : Int)) := Lib.hid (by rw [hkn])
      clear hkn
      go_wp2
      go_ret
      exact ⟨ret_int HR.out, m, rfl⟩

/-! as whole values -/
def RdTwinS (w : World) (hi : Nat) (v : Value) (d : List (Int × Int × Int × Int)) : Prop := ∃ A n c, v = .slice A n c ∧ n ≤ 9223372036854775807 ∧ Rd w hi 4 A n (cTwin d)
def OwTwinS (w : World) (lo hi : Nat) (v : Value) (d : List (Int × Int × Int × Int)) : Prop := d.length ≤ 1048576 ∧ ∃ A n c, v = .slice A n c ∧ Ow w lo hi 76 4 A n c (cTwin d)
def szTwinS (d : List (Int × Int × Int × Int)) : Nat := d.length
def mkTwinS (K : Int) (d : List (Int × Int × Int × Int)) : List (Int × Int × Int × Int) := iotaTwin K d.length
section
variable {w w' : World} {lo hi lo' hi' B mid : Nat} {v : Value} {d : List (Int × Int × Int × Int)}
theorem RdTwinS.below (h : RdTwinS w hi v d) (hb : Below hi w w') : RdTwinS w' hi v d := by
  obtain ⟨A, n, c, rfl, hn, r⟩ := h; exact ⟨A, n, c, rfl, hn, r.below hb⟩
theorem RdTwinS.more (h : RdTwinS w hi v d) (hh : hi ≤ hi') : RdTwinS w hi' v d := by
  obtain ⟨A, n, c, rfl, hn, r⟩ := h; exact ⟨A, n, c, rfl, hn, r.more hh⟩
theorem OwTwinS.small (h : OwTwinS w lo hi v d) : szTwinS d ≤ 1048576 := h.1
theorem OwTwinS.rd (h : OwTwinS w lo hi v d) : RdTwinS w hi v d := by
  obtain ⟨hs, A, n, c, rfl, r⟩ := h
  exact ⟨A, n, c, rfl, by have := r.Twinlen; omega, r.rd⟩
theorem OwTwinS.below (h : OwTwinS w lo hi v d) (hb : Below B w w') (hz : hi ≤ B) : OwTwinS w' lo hi v d := by
  obtain ⟨hs, A, n, c, rfl, r⟩ := h; exact ⟨hs, A, n, c, rfl, r.below hb hz⟩
theorem OwTwinS.kept (h : OwTwinS w lo hi v d) (hk : Kept lo' mid w w') (hz : hi ≤ w.heap.size) (hd : mid ≤ lo ∨ hi ≤ lo') : OwTwinS w' lo hi v d := by
  obtain ⟨hs, A, n, c, rfl, r⟩ := h; exact ⟨hs, A, n, c, rfl, r.kept hk hz hd⟩
theorem OwTwinS.widen (h : OwTwinS w lo hi v d) (h1 : lo' ≤ lo) (h2 : hi ≤ hi') : OwTwinS w lo' hi' v d := by
  obtain ⟨hs, A, n, c, rfl, r⟩ := h; exact ⟨hs, A, n, c, rfl, r.widen h1 h2⟩
end
theorem OwTwinS.nil_ (w : World) (lo hi : Nat) : OwTwinS w lo hi (.slice none 0 0) [] := ⟨by simp, none, 0, 0, rfl, by simp [cTwin], Nat.le_refl _, .inl rfl⟩
theorem RdTwinS.nil_ (w : World) (hi : Nat) : RdTwinS w hi (.slice none 0 0) [] := ⟨none, 0, 0, rfl, by omega, by simp [cTwin], fun h => by omega⟩

theorem L_eqTwinS (hi hi' : Nat) (v v' : Value) (d : List (Int × Int × Int × Int)) (w : World) (h : RdTwinS w hi v d) (h' : RdTwinS w hi' v' d) (hh : hi ≤ w.heap.size) (hh' : hi' ≤ w.heap.size) (hs : szTwinS d ≤ 1048576) :
    Calls Try.prog 22 #[v, v'] w fun e w' => e = .returned (.bool true) ∧ Below w.heap.size w w' := by
  obtain ⟨A, n, c, rfl, _, r⟩ := h
  obtain ⟨A', n', c', rfl, _, r'⟩ := h'
  have hl := r.Twinlen
  have hl' := r'.Twinlen
  obtain rfl : n' = n := by omega
  unfold szTwinS at hs
  exact l_eqTwinS A A' _ c c' d w (r.more hh) (r'.more hh') (by omega)

theorem L_markTwinS (lo hi : Nat) (v : Value) (d : List (Int × Int × Int × Int)) (K : Int) (w : World) (h : OwTwinS w lo hi v d) (_hz : hi ≤ w.heap.size) (hK : 0 ≤ K) (hK2 : K ≤ 1000000000) :
    Calls Try.prog 23 #[v, .int .i64 K] w fun e w' => ∃ K', e = .returned (.int .i64 K') ∧ Hid (K' = K + 4 * szTwinS d) ∧ 0 ≤ K' ∧ K' ≤ K + 4194304 ∧ OwTwinS w' lo hi v (mkTwinS K d) ∧ Kept lo hi w w' := by
  obtain ⟨hs, A, n, c, rfl, r⟩ := h
  have hl := r.Twinlen
  refine (l_markTwinS A n c lo hi d K w r (by omega) hK (by omega)).mono fun e w' ⟨he, ho, hk⟩ => ?_
  refine ⟨_, he, Lib.hid (by unfold szTwinS; omega), by omega, by omega, ⟨by rw [mkTwinS, iotaTwin_length]; exact hs, _, _, _, rfl, ?_⟩, hk⟩
  unfold mkTwinS; rw [hl]; exact ho

theorem L_heldTwinS (hi : Nat) (v : Value) (d : List (Int × Int × Int × Int)) (K q : Int) (w : World) (h : RdTwinS w hi v (mkTwinS K d)) (_hz : hi ≤ w.heap.size) (hs : szTwinS d ≤ 1048576) (hq : Hid (q = K)) (hK : 0 ≤ K) (hK2 : K ≤ 1000000000) :
    Calls Try.prog 24 #[v, .int .i64 q] w fun e w' => ∃ K', e = .returned (.int .i64 K') ∧ Hid (K' = K + 4 * szTwinS d) ∧ 0 ≤ K' ∧ K' ≤ K + 4194304 ∧ Below w.heap.size w w' := by
  obtain ⟨A, n, c, rfl, _, r⟩ := h
  have hl := r.Twinlen
  rw [mkTwinS, iotaTwin_length] at hl
  unfold szTwinS at hs
  obtain rfl : q = K := hq.out
  unfold mkTwinS at r; rw [hl] at r
  refine (l_heldTwinS A n c hi q w r (by omega) hK (by omega)).mono fun e w' ⟨he, hk⟩ => ?_
  exact ⟨_, he, Lib.hid (by unfold szTwinS; omega), by omega, by omega, hk.below _⟩

end Go.Proofs.Ytdhakbpimbadgaa
