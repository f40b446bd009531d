/- Lists of pairs of ints: as cells; what reads and what is owned. -/
import Derived.Test.YtaiilopfdjbceaaFaceI
import Derived.Test.YtaiilopfdjbceaaPts0
import Derived.StillTailTactics
namespace Go.Proofs.Ytaiilopfdjbceaa
open Go.RowKit
set_option maxRecDepth 100000

theorem Rd.plen {w : World} {hi n : Nat} {A : Option Addr} {ps : List (Int × Int)} (h : Rd w hi 2 A n (cP ps)) : ps.length = n := by have := h.1; rw [cP_length] at this; omega
theorem Rd.ptAt {w : World} {hi n k : Nat} {A : Option Addr} {ps : List (Int × Int)} (h : Rd w hi 2 A n (cP ps)) (hk : k < n) :
    ∃ (a : Addr) (x y : Int), A = some a ∧ a.block < hi ∧ w.cell? (a.add (k * 2)) = some (.int .i64 x) ∧ w.cell? ⟨(a.add (k * 2)).block, (a.add (k * 2)).off + 1, none⟩ = some (.int .i64 y) ∧ Hid (ps.getD k (0, 0) = (x, y)) := by
  obtain ⟨a, e, hb, hc⟩ := h.2 (by omega)
  have hl := h.plen
  exact ⟨a, _, _, e, hb, hc _ _ (cP_get1 ps k (by omega)), by rw [add_next _ _ _ (by omega)]; exact hc _ _ (cP_get2 ps k (by omega)), Lib.hid rfl⟩
theorem Ow.plen {w : World} {lo hi e n c : Nat} {A : Option Addr} {ps : List (Int × Int)} (h : Ow w lo hi e 2 A n c (cP ps)) : ps.length = n := by have := h.1; rw [cP_length] at this; omega
theorem two_cells (w : World) (a : Addr) (x y : Value) (h1 : w.cell? a = some x) (h2 : w.cell? (a.add 1) = some y) : w.cell? a = some x ∧ w.cell? (a.add 1) = some y := ⟨h1, h2⟩

set_option maxHeartbeats 400000 in
theorem l_eqPoint (x y : Int) (w : World) :
    Calls Try.prog 59 #[.agg #[.int .i64 x, .int .i64 y], .agg #[.int .i64 x, .int .i64 y]] w fun e w' => e = .returned (.bool true) ∧ Below w.heap.size w w' := by
  go_enter Try.func59, Try.ntmps59
  go_wp2
  go_ret
  exact ⟨rfl, ((Below.refl _ _).alloc (Nat.le_refl _) _).alloc (by simp) _⟩

set_option maxHeartbeats 400000 in
theorem l_eqPointS (A A' : Option Addr) (n c c' : Nat) (ps : List (Int × Int)) (w : World) (h : Rd w w.heap.size 2 A n (cP ps)) (h' : Rd w w.heap.size 2 A' n (cP ps)) (hn : n ≤ 1048576) :
    Calls Try.prog 23 #[.slice A n c, .slice A' n c'] w fun e w' => e = .returned (.bool true) ∧ Below w.heap.size w w' := by
  have H := Lib.hid h
  have H' := Lib.hid h'
  clear h h'
  go_enter Try.func23, Try.ntmps23
  go_wp2
  go_loopw [5] (fun i wr => ∃ k : Nat, k ≤ n ∧ i = .int .i64 k ∧ Hid (Below w.heap.size w wr)) (fun i _ => n - (intOf i).toNat)
  case atStart => exact ⟨0, Nat.zero_le _, rfl, Lib.hid (Below.refl _ _)⟩
  case round =>
    obtain ⟨k, hk, rfl, HB⟩ := hrel
    by_cases hlt : k < n
    · obtain ⟨a, x, y, rfl, hab, hx0, hy0, HP⟩ := H.out.ptAt hlt
      obtain ⟨a', x', y', rfl, hab', hx0', hy0', HP'⟩ := H'.out.ptAt hlt
      obtain ⟨rfl, rfl⟩ : x' = x ∧ y' = y := by have := HP.out.symm.trans HP'.out; simpa using this.symm
      have i0 : (0 : Int) ≤ (k : Int) := by omega
      have i1 : (k : Int) < (n : Int) := by omega
      have hx := (HB.out.cell (p := a.add (k * 2)) (by rw [add_block]; exact hab)).trans hx0
      have hy := (HB.out.cell (p := ⟨(a.add (k * 2)).block, (a.add (k * 2)).off + 1, none⟩) (by rw [add_block]; exact hab)).trans hy0
      have hx' := (HB.out.cell (p := a'.add (k * 2)) (by rw [add_block]; exact hab')).trans hx0'
      have hy' := (HB.out.cell (p := ⟨(a'.add (k * 2)).block, (a'.add (k * 2)).off + 1, none⟩) (by rw [add_block]; exact hab')).trans hy0'
      clear hx0 hy0 hx0' hy0'
      go_wp2
      go_still_tail 8, (by kernel_rfl)
      change wpList _ _ _ _ _ wr.drew
      go_wp2_with fail
      refine (l_eqPoint _ _ _).mono ?_
      rintro e w2 ⟨rfl, hb⟩
      have HB2 : Hid (Below w.heap.size w w2) := Lib.hid (HB.out.drew.trans (hb.mono HB.out.size))
      clear hx hy hx' hy' hb HB
      go_wp2
      go_roundw
      case rel => exact ⟨k + 1, by omega, by go_num, HB2⟩
      case measure => simp [intOf] <;> omega
    · go_wp2
      go_ret
      exact ⟨rfl, HB.out⟩

set_option maxHeartbeats 400000 in
theorem l_toPoint (x y : Int) (w : World) :
    Calls Try.prog 34 #[.agg #[.int .i64 x, .int .i64 y]] w fun e w' => e = .returned (.agg #[.int .i64 x, .int .i64 y]) ∧ Below w.heap.size w w' := by
  go_enter Try.func34, Try.ntmps34
  go_wp2
  refine bodyPost_ret (v := .agg #[.int .i64 x, .int .i64 y]) (by simp [results, Try.results34, go_sem]) rfl ⟨rfl, ?_⟩
  exact ((((Below.refl _ _).alloc (Nat.le_refl _) _).alloc (by simp only [World.size_alloc]; omega) _).alloc (by simp only [World.size_alloc]; omega) _)

theorem info_pt : (Try.prog.info? 44).map (fun i => (i.zero, i.size, i.bytes)) = some (some (.agg #[.int .i64 0, .int .i64 0]), 2, 16) := by kernel_rfl
/-- make([]T, n) of elements of several cells -/
theorem run_makeN {P : Program} {t e : TypeId} {z : Value} {bytes size : Nat} (ht : P.underlying t = some (.slice e)) (hi : (P.info? e).map (fun i => (i.zero, i.size, i.bytes)) = some (some z, size, bytes))
    (n : Nat) (hb : bytes * n ≤ 281474976710656) (hn : n ≤ 9223372036854775807) (w : World) :
    (Instr.makeSlice t (.int .i64 (n : Int)) (.int .i64 (n : Int))).run P w = .ok (.slice (some ⟨w.heap.size, 0, none⟩) n n) (w.alloc (.cells (madeCells z.cells (n * size)) e)) := by
  obtain ⟨i, hi, hz0, hz1, hz2⟩ := info_parts hi
  have hb' : (i.bytes : Int) * (n : Int) ≤ 281474976710656 := by
    have h : ((i.bytes * n : Nat) : Int) ≤ 281474976710656 := by rw [hz2]; omega
    rwa [Int.natCast_mul] at h
  have hr := run_make (P := P) w t e i z ht hi hz0 .i64 .i64 n n (by omega) (Int.le_refl _) hb' (by omega)
  simp only [Int.toNat_natCast, hz1] at hr
  exact hr
theorem made_pts (n : Nat) : (madeCells #[.int .i64 0, .int .i64 0] (n * 2)).toList = cP (List.replicate n (0, 0)) := by
  have h0 : ∀ (k : Nat), (madeCells #[Value.int .i64 0, .int .i64 0] k).toList = List.replicate k (.int .i64 0) := by
    intro k
    apply List.ext_getElem?
    intro j
    by_cases hj : j < k
    · have h2 : j % 2 = 0 ∨ j % 2 = 1 := by omega
      rcases h2 with h2 | h2 <;> simp [madeCells, hj, h2]
    · simp [madeCells, hj]
  rw [h0]
  induction n with
  | zero => rfl
  | succ n ih => rw [show (n + 1) * 2 = n * 2 + 1 + 1 by omega, List.replicate_succ, List.replicate_succ, ih, List.replicate_succ, cP_cons]
theorem copy_ptstep {ps : List (Int × Int)} {n k : Nat} {x y : Int} (hz : ps.length = n) (hk : k < n) (hp : ps.getD k (0, 0) = (x, y)) : (ps.take k ++ List.replicate (n - k) (0, 0)).set k (x, y) = ps.take (k + 1) ++ List.replicate (n - (k + 1)) (0, 0) := by
  have hl : (ps.take k).length = k := by simp; omega
  rw [List.set_append_right _ _ (by omega), hl, Nat.sub_self, show n - k = (n - (k + 1)) + 1 by omega, List.replicate_succ]
  have hk' : k < ps.length := by omega
  rw [List.set_cons_zero, List.take_succ_eq_append_getElem hk', List.append_assoc, List.singleton_append]
  have : ps[k] = (x, y) := by rw [← hp]; simp [hk']
  rw [this]
/-- a pair stored -/
theorem Ow.setP {w : World} {lo hi e n c g k : Nat} {ps : List (Int × Int)} (h : Ow w lo hi e 2 (some ⟨g, 0, none⟩) n c (cP ps)) (x y : Int) :
    Ow ((w.setCell ⟨g, k * 2, none⟩ (.int .i64 x)).setCell ⟨g, k * 2 + 1, none⟩ (.int .i64 y)) lo hi e 2 (some ⟨g, 0, none⟩) n c (cP (ps.set k (x, y))) := by
  have := (h.set (k * 2) (.int .i64 x)).set (k * 2 + 1) (.int .i64 y)
  rw [cP_set] at this; exact this

set_option maxHeartbeats 400000 in
theorem l_toPointS (A : Option Addr) (n c : Nat) (ps : List (Int × Int)) (w : World) (h : Rd w w.heap.size 2 A n (cP ps)) (hn : n ≤ 1048576) :
    Calls Try.prog 29 #[.slice A n c] w fun e w' => e = .returned (.slice (some ⟨w.heap.size, 0, none⟩) n n) ∧ Ow w' w.heap.size (w.heap.size + 1) 44 2 (some ⟨w.heap.size, 0, none⟩) n n (cP ps) ∧ Below w.heap.size w w' ∧ w.heap.size < w'.heap.size := by
  have hmk := fun W => run_makeN (P := Try.prog) Try.underlying29 info_pt n (by omega) (by omega) W
  have hlen : Hid (ps.length = n) := Lib.hid h.plen
  have H := Lib.hid h
  clear h
  go_enter Try.func29, Try.ntmps29
  go_wp2
  go_loopw [4] (fun i wr => ∃ k : Nat, k ≤ n ∧ i = .int .i64 k ∧ Hid (Ow wr w.heap.size (w.heap.size + 1) 44 2 (some ⟨w.heap.size, 0, none⟩) n n (cP (ps.take k ++ List.replicate (n - k) (0, 0)))) ∧ Hid (Below w.heap.size w wr) ∧ Hid (w.heap.size < wr.heap.size)) (fun i _ => n - (intOf i).toNat)
  case atStart => exact ⟨0, Nat.zero_le _, rfl, Lib.hid (by rw [List.take_zero, List.nil_append, Nat.sub_zero, ← made_pts]; exact Ow.new _ _ _ _ _ (size_madeCells _ _)), Lib.hid ((Below.refl _ _).alloc (Nat.le_refl _) _), Lib.hid (by simp)⟩
  case round =>
    obtain ⟨k, hk, rfl, HO, HB, HS⟩ := hrel
    by_cases hlt : k < n
    · obtain ⟨a, x, y, rfl, hab, hx0, hy0, HP⟩ := H.out.ptAt hlt
      have hx := (HB.out.cell (p := a.add (k * 2)) (by rw [add_block]; exact hab)).trans hx0
      have hy := (HB.out.cell (p := ⟨(a.add (k * 2)).block, (a.add (k * 2)).off + 1, none⟩) (by rw [add_block]; exact hab)).trans hy0
      clear hx0 hy0
      go_wp2_with fail
      refine (l_toPoint _ _ _).mono ?_
      rintro e w2 ⟨rfl, hb⟩
      have hz := hb.size
      have HO1 := Lib.hid (HO.out.below hb (by have := HS.out; omega))
      have HB1 : Hid (Below w.heap.size w w2) := Lib.hid (HB.out.trans (hb.mono HB.out.size))
      have HS1 : Hid (w.heap.size < w2.heap.size) := Lib.hid (by have := HS.out; omega)
      have hlt2 : k * 2 + 1 < n * 2 := by omega
      have hlen2 : (cP (ps.take k ++ List.replicate (n - k) (0, 0))).length = n * 2 := by have := HO1.out.1; exact this
      have hc0 : ∃ u, w2.cell? ⟨w.heap.size, k * 2, none⟩ = some u := ⟨_, HO1.out.cellAt (List.getElem?_eq_getElem (by omega))⟩
      have hc1 : ∃ u, w2.cell? ⟨w.heap.size, k * 2 + 1, none⟩ = some u := ⟨_, HO1.out.cellAt (List.getElem?_eq_getElem (by omega))⟩
      obtain ⟨u0, hc0⟩ := hc0
      obtain ⟨u1, hc1⟩ := hc1
      have hf0 := HO1.out.free (by omega) (k * 2)
      have hf1 := HO1.out.free (by omega) (k * 2 + 1)
      have HO2 := Lib.hid (HO1.out.setP (k := k) x y)
      rw [copy_ptstep hlen.out hlt HP.out] at HO2
      clear hx hy hb hz HO HB HS HO1 hlen2
      go_wp2
      go_roundw
      case rel => exact ⟨k + 1, by omega, by go_num, HO2, Lib.hid ((HB1.out.setCell (p := ⟨w.heap.size, k * 2, none⟩) (Nat.le_refl _) _).setCell (p := ⟨w.heap.size, k * 2 + 1, none⟩) (Nat.le_refl _) _), Lib.hid (by rw [World.size_setCell, World.size_setCell]; exact HS1.out)⟩
      case measure => simp [intOf] <;> omega
    · have hkn : k = n := by omega
      have HO2 : Hid (Ow wr w.heap.size (w.heap.size + 1) 44 2 (some ⟨w.heap.size, 0, none⟩) n n (cP ps)) := Lib.hid (by
        have := HO.out; rw [hkn, List.take_of_length_le (by have := hlen.out; omega), Nat.sub_self, List.replicate_zero, List.append_nil] at this; exact this)
      clear HO hkn
      go_wp2
      go_ret
      exact ⟨rfl, HO2.out, HB.out, HS.out⟩

/-- pairs marked: K, K + 1; K + 2, K + 3; .. -/
def iotaP (K : Int) (n : Nat) : List (Int × Int) := (List.range n).map fun i : Nat => (K + 2 * (i : Int), K + 2 * (i : Int) + 1)
theorem iotaP_length (K : Int) (n : Nat) : (iotaP K n).length = n := by simp [iotaP]
theorem iotaP_succ (K : Int) (n : Nat) : iotaP K (n + 1) = iotaP K n ++ [(K + 2 * n, K + 2 * n + 1)] := by simp [iotaP, List.range_succ]
theorem mark_ptstep {ps : List (Int × Int)} {n k : Nat} (K : Int) (hz : ps.length = n) (hk : k < n) : (iotaP K k ++ ps.drop k).set k (K + 2 * k, K + 2 * k + 1) = iotaP K (k + 1) ++ ps.drop (k + 1) := by
  have hl := iotaP_length K k
  have hk' : k < ps.length := by omega
  rw [List.set_append_right _ _ (by omega), hl, Nat.sub_self, iotaP_succ, List.append_assoc, List.drop_eq_getElem_cons hk', List.set_cons_zero, List.singleton_append]

set_option maxHeartbeats 400000 in
theorem l_markPointS (A : Option Addr) (n c lo hi : Nat) (ps : List (Int × Int)) (K : Int) (w : World) (h : Ow w lo hi 44 2 A n c (cP ps)) (hn : n ≤ 1048576) (hK : 0 ≤ K) (hK2 : K ≤ 1000000000000) :
    Calls Try.prog 25 #[.slice A n c, .int .i64 K] w fun e w' => e = .returned (.int .i64 (K + 2 * n)) ∧ Ow w' lo hi 44 2 A n c (cP (iotaP K n)) ∧ Kept lo hi w w' := by
  have hlen : Hid (ps.length = n) := Lib.hid h.plen
  have H := Lib.hid h
  clear h
  go_enter Try.func25, Try.ntmps25
  go_wp2
  go_loopw [1, 5] (fun kk i wr => ∃ k : Nat, k ≤ n ∧ i = .int .i64 k ∧ kk = .int .i64 (K + 2 * k) ∧ Hid (Ow wr lo hi 44 2 A n c (cP (iotaP K k ++ ps.drop k))) ∧ Hid (Kept lo hi w wr)) (fun _ i _ => n - (intOf i).toNat)
  case atStart => exact ⟨0, Nat.zero_le _, rfl, by go_num, H, Lib.hid (Kept.refl _ _ _)⟩
  case round =>
    obtain ⟨k, hk, rfl, rfl, HO, HB⟩ := hrel
    by_cases hlt : k < n
    · obtain ⟨g, cs, hA, g1, g2, _, _⟩ := HO.out.lt (by omega)
      subst hA
      have hlen2 : (cP (iotaP K k ++ ps.drop k)).length = n * 2 := HO.out.1
      obtain ⟨u0, hc0⟩ : ∃ u, wr.cell? ⟨g, k * 2, none⟩ = some u := ⟨_, HO.out.cellAt (List.getElem?_eq_getElem (by omega))⟩
      obtain ⟨u1, hc1⟩ : ∃ u, wr.cell? ⟨g, k * 2 + 1, none⟩ = some u := ⟨_, HO.out.cellAt (List.getElem?_eq_getElem (by omega))⟩
      have hf0 := HO.out.free (by omega) (k * 2)
      have hf1 := HO.out.free (by omega) (k * 2 + 1)
      have HO2 := Lib.hid (HO.out.setP (k := k) (K + 2 * k) (K + 2 * k + 1))
      rw [mark_ptstep K hlen.out hlt] at HO2
      have HB2 := Lib.hid ((HB.out.setCell (p := ⟨g, k * 2, none⟩) g1 g2 (.int .i64 (K + 2 * k))).setCell (p := ⟨g, k * 2 + 1, none⟩) g1 g2 (.int .i64 (K + 2 * k + 1)))
      clear HO HB hlen2
      go_wp2
      go_roundw
      case rel => exact ⟨k + 1, by omega, by go_num, by go_num, HO2, HB2⟩
      case measure => simp [intOf] <;> omega
    · have hkn : k = n := by omega
      have HO2 : Hid (Ow wr lo hi 44 2 A n c (cP (iotaP K n))) := Lib.hid (by
        have := HO.out; rw [hkn, List.drop_of_length_le (by have := hlen.out; omega), List.append_nil] at this; exact this)
      have HR : Hid (K + 2 * (k : Int) = K + 2 * (n : Int)) := Lib.hid (by rw [hkn])
      clear HO hkn
      go_wp2
      go_ret
      exact ⟨ret_int HR.out, HO2.out, HB.out⟩

set_option maxHeartbeats 400000 in
theorem l_szPointS (A : Option Addr) (n c : Nat) (left : Int) (w : World) (hn : n ≤ 9223372036854775807) (hl : 0 ≤ left) (hl2 : left ≤ 1048576) :
    Calls Try.prog 27 #[.slice A n c, .int .i64 left] w fun e w' => e = .returned (.int .i64 (if (n : Int) ≤ left then left - n else -1)) ∧ w = w' := by
  by_cases h : (n : Int) ≤ left
  all_goals
    go_enter Try.func27, Try.ntmps27
    go_wp2
    go_ret
    exact ⟨rfl, rfl⟩
end Go.Proofs.Ytaiilopfdjbceaa
