/- Lists of structs of 3 ints (Gate): as cells; what reads and what is owned; the laws' helpers over them. Made by tools/genflat.py. -/
import Derived.Test.YtipdflbnnmghdaaFaceI
import Derived.Test.YtipdflbnnmghdaaPts
import Derived.StillTailTactics
namespace Go.Proofs.Ytipdflbnnmghdaa
open Go.RowKit
set_option maxRecDepth 100000

def cGate (ps : List (Int × Int × Int)) : List Value := ps.flatMap fun p => [.int .i64 (p.1), .int .i64 (p.2.1), .int .i64 (p.2.2)]
theorem cGate_length (ps : List (Int × Int × Int)) : (cGate ps).length = ps.length * 3 := by
  induction ps with
  | nil => rfl
  | cons p t ih => simp only [cGate, List.flatMap_cons, List.length_append, List.length_cons, List.length_nil] at *; omega
theorem cGate_cons (p : Int × Int × Int) (t : List (Int × Int × Int)) : cGate (p :: t) = .int .i64 (p.1) :: .int .i64 (p.2.1) :: .int .i64 (p.2.2) :: cGate t := rfl
theorem cGate_get0 (ps : List (Int × Int × Int)) (k : Nat) (h : k < ps.length) : (cGate ps)[k * 3]? = some (.int .i64 ((ps.getD k (0, 0, 0)).1)) := by
  induction ps generalizing k with
  | nil => simp at h
  | cons p t ih =>
    cases k with
    | zero => simp [cGate_cons]
    | succ k => rw [cGate_cons, show (k + 1) * 3 = k * 3 + 1 + 1 + 1 by omega, List.getElem?_cons_succ, List.getElem?_cons_succ, List.getElem?_cons_succ, ih k (by simpa using h)]; rfl
theorem cGate_get1 (ps : List (Int × Int × Int)) (k : Nat) (h : k < ps.length) : (cGate ps)[k * 3 + 1]? = some (.int .i64 ((ps.getD k (0, 0, 0)).2.1)) := by
  induction ps generalizing k with
  | nil => simp at h
  | cons p t ih =>
    cases k with
    | zero => simp [cGate_cons]
    | succ k => rw [cGate_cons, show (k + 1) * 3 + 1 = k * 3 + 1 + 1 + 1 + 1 by omega, List.getElem?_cons_succ, List.getElem?_cons_succ, List.getElem?_cons_succ, ih k (by simpa using h)]; rfl
theorem cGate_get2 (ps : List (Int × Int × Int)) (k : Nat) (h : k < ps.length) : (cGate ps)[k * 3 + 2]? = some (.int .i64 ((ps.getD k (0, 0, 0)).2.2)) := by
  induction ps generalizing k with
  | nil => simp at h
  | cons p t ih =>
    cases k with
    | zero => simp [cGate_cons]
    | succ k => rw [cGate_cons, show (k + 1) * 3 + 2 = k * 3 + 2 + 1 + 1 + 1 by omega, List.getElem?_cons_succ, List.getElem?_cons_succ, List.getElem?_cons_succ, ih k (by simpa using h)]; rfl
theorem cGate_set (ps : List (Int × Int × Int)) (k : Nat) (x y z : Int) : (((cGate ps).set (k * 3) (.int .i64 x)).set (k * 3 + 1) (.int .i64 y)).set (k * 3 + 2) (.int .i64 z) = cGate (ps.set k (x, y, z)) := by
  induction ps generalizing k with
  | nil => rfl
  | cons p t ih =>
    cases k with
    | zero => rfl
    | succ k =>
      have e0 : (k + 1) * 3 = k * 3 + 1 + 1 + 1 := by omega
      have e1 : (k + 1) * 3 + 1 = k * 3 + 1 + 1 + 1 + 1 := by omega
      have e2 : (k + 1) * 3 + 2 = k * 3 + 2 + 1 + 1 + 1 := by omega
      rw [cGate_cons, e2, e1, e0, List.set_cons_succ, List.set_cons_succ, List.set_cons_succ, List.set_cons_succ, List.set_cons_succ, List.set_cons_succ, List.set_cons_succ, List.set_cons_succ, List.set_cons_succ, ih k, List.set_cons_succ, cGate_cons]

theorem Rd.Gatelen {w : World} {hi n : Nat} {A : Option Addr} {ps : List (Int × Int × Int)} (h : Rd w hi 3 A n (cGate ps)) : ps.length = n := by have := h.1; rw [cGate_length] at this; omega
theorem Ow.Gatelen {w : World} {lo hi e n c : Nat} {A : Option Addr} {ps : List (Int × Int × Int)} (h : Ow w lo hi e 3 A n c (cGate ps)) : ps.length = n := by have := h.1; rw [cGate_length] at this; omega
theorem Rd.GateAt {w : World} {hi n k : Nat} {A : Option Addr} {ps : List (Int × Int × Int)} (h : Rd w hi 3 A n (cGate ps)) (hk : k < n) :
    ∃ (a : Addr) (x y z : Int), A = some a ∧ a.block < hi ∧ w.cell? (a.add (k * 3)) = some (.int .i64 x) ∧ w.cell? ⟨(a.add (k * 3)).block, (a.add (k * 3)).off + 1, none⟩ = some (.int .i64 y) ∧ w.cell? ⟨(a.add (k * 3)).block, (a.add (k * 3)).off + 2, none⟩ = some (.int .i64 z) ∧ Hid (ps.getD k (0, 0, 0) = (x, y, z)) := by
  obtain ⟨a, e, hb, hc⟩ := h.2 (by omega)
  have hl := h.Gatelen
  exact ⟨a, _, _, _, e, hb, hc _ _ (cGate_get0 ps k (by omega)), by rw [add_next _ _ _ (by omega)]; exact hc _ _ (cGate_get1 ps k (by omega)), by rw [add_next _ _ _ (by omega)]; exact hc _ _ (cGate_get2 ps k (by omega)), Lib.hid rfl⟩

set_option maxHeartbeats 400000 in
theorem l_eqGate (x y z : Int) (w : World) :
    Calls Try.prog 156 #[.agg #[.int .i64 x, .int .i64 y, .int .i64 z], .agg #[.int .i64 x, .int .i64 y, .int .i64 z]] w fun e w' => e = .returned (.bool true) ∧ Below w.heap.size w w' := by
  go_enter Try.func156, Try.ntmps156
  go_wp2
  go_ret
  exact ⟨rfl, ((Below.refl _ _).alloc (Nat.le_refl _) _).alloc (by simp) _⟩

set_option maxHeartbeats 1000000 in
theorem l_eqGateS (A A' : Option Addr) (n c c' : Nat) (ps : List (Int × Int × Int)) (w : World) (h : Rd w w.heap.size 3 A n (cGate ps)) (h' : Rd w w.heap.size 3 A' n (cGate ps)) (hn : n ≤ 1048576) :
    Calls Try.prog 119 #[.slice A n c, .slice A' n c'] w fun e w' => e = .returned (.bool true) ∧ Below w.heap.size w w' := by
  have H := Lib.hid h
  have H' := Lib.hid h'
  clear h h'
  go_enter Try.func119, Try.ntmps119
  go_wp2
  go_loopw [5] (fun i wr => ∃ k : Nat, k ≤ n ∧ i = .int .i64 k ∧ Hid (Below w.heap.size w wr)) (fun i _ => n - (intOf i).toNat)
  case atStart => exact ⟨0, Nat.zero_le _, rfl, Lib.hid (Below.refl _ _)⟩
  case round =>
    obtain ⟨k, hk, rfl, HB⟩ := hrel
    by_cases hlt : k < n
    · obtain ⟨a, x, y, z, rfl, hab, hcx0, hcy0, hcz0, HP⟩ := H.out.GateAt hlt
      obtain ⟨a', x', y', z', rfl, hab', hdx0, hdy0, hdz0, HP'⟩ := H'.out.GateAt hlt
      obtain ⟨rfl, rfl, rfl⟩ : x' = x ∧ y' = y ∧ z' = z := by have := HP.out.symm.trans HP'.out; simpa using this.symm
      have i0 : (0 : Int) ≤ (k : Int) := by omega
      have i1 : (k : Int) < (n : Int) := by omega
      have hcx := (HB.out.cell (p := a.add (k * 3)) (by rw [add_block]; exact hab)).trans hcx0
      have hcy := (HB.out.cell (p := ⟨(a.add (k * 3)).block, (a.add (k * 3)).off + 1, none⟩) (by rw [add_block]; exact hab)).trans hcy0
      have hcz := (HB.out.cell (p := ⟨(a.add (k * 3)).block, (a.add (k * 3)).off + 2, none⟩) (by rw [add_block]; exact hab)).trans hcz0
      have hdx := (HB.out.cell (p := a'.add (k * 3)) (by rw [add_block]; exact hab')).trans hdx0
      have hdy := (HB.out.cell (p := ⟨(a'.add (k * 3)).block, (a'.add (k * 3)).off + 1, none⟩) (by rw [add_block]; exact hab')).trans hdy0
      have hdz := (HB.out.cell (p := ⟨(a'.add (k * 3)).block, (a'.add (k * 3)).off + 2, none⟩) (by rw [add_block]; exact hab')).trans hdz0
      clear hcx0 hcy0 hcz0 hdx0 hdy0 hdz0
      go_wp2
      go_still_tail 8, (by kernel_rfl)
      change wpList _ _ _ _ _ wr.drew
      go_wp2_with fail
      refine (l_eqGate _ _ _ _).mono ?_
      rintro e w2 ⟨rfl, hb⟩
      have HB2 : Hid (Below w.heap.size w w2) := Lib.hid (HB.out.drew.trans (hb.mono HB.out.size))
      clear hcx hcy hcz hdx hdy hdz hb HB
      go_wp2
      go_roundw
      case rel => exact ⟨k + 1, by omega, by go_num, HB2⟩
      case measure => simp [intOf] <;> omega
    · go_wp2
      go_ret
      exact ⟨rfl, HB.out⟩

set_option maxHeartbeats 400000 in
theorem l_toGate (x y z : Int) (w : World) :
    Calls Try.prog 154 #[.agg #[.int .i64 x, .int .i64 y, .int .i64 z]] w fun e w' => e = .returned (.agg #[.int .i64 x, .int .i64 y, .int .i64 z]) ∧ Below w.heap.size w w' := by
  go_enter Try.func154, Try.ntmps154
  go_wp2
  refine bodyPost_ret (v := .agg #[.int .i64 x, .int .i64 y, .int .i64 z]) (by simp [results, Try.results154, go_sem]) rfl ⟨rfl, ?_⟩
  exact ((((Below.refl _ _).alloc (Nat.le_refl _) _).alloc (by simp only [World.size_alloc]; omega) _).alloc (by simp only [World.size_alloc]; omega) _)

theorem info_Gate : (Try.prog.info? 154).map (fun i => (i.zero, i.size, i.bytes)) = some (some (.agg #[.int .i64 0, .int .i64 0, .int .i64 0]), 3, 24) := by kernel_rfl
theorem made_Gate (n : Nat) : (madeCells #[.int .i64 0, .int .i64 0, .int .i64 0] (n * 3)).toList = cGate (List.replicate n (0, 0, 0)) := by
  have h0 : ∀ (k : Nat), (madeCells #[Value.int .i64 0, .int .i64 0, .int .i64 0] k).toList = List.replicate k (Value.int .i64 0) := by
    intro k
    apply List.ext_getElem?
    intro j
    by_cases hj : j < k
    · have h2 : j % 3 = 0 ∨ j % 3 = 1 ∨ j % 3 = 2 := by omega
      rcases h2 with h2 | h2 | h2 <;> simp [madeCells, hj, h2]
    · simp [madeCells, hj]
  rw [h0]
  induction n with
  | zero => rfl
  | succ n ih => rw [show (n + 1) * 3 = n * 3 + 1 + 1 + 1 by omega, List.replicate_succ, List.replicate_succ, List.replicate_succ, ih, List.replicate_succ, cGate_cons]
theorem copy_Gate {ps : List (Int × Int × Int)} {n k : Nat} {x y z : Int} (hz : ps.length = n) (hk : k < n) (hp : ps.getD k (0, 0, 0) = (x, y, z)) : (ps.take k ++ List.replicate (n - k) (0, 0, 0)).set k (x, y, z) = ps.take (k + 1) ++ List.replicate (n - (k + 1)) (0, 0, 0) := by
  have hl : (ps.take k).length = k := by simp; omega
  rw [List.set_append_right _ _ (by omega), hl, Nat.sub_self, show n - k = (n - (k + 1)) + 1 by omega, List.replicate_succ]
  have hk' : k < ps.length := by omega
  rw [List.set_cons_zero, List.take_succ_eq_append_getElem hk', List.append_assoc, List.singleton_append]
  have : ps[k] = (x, y, z) := by rw [← hp]; simp [hk']
  rw [this]
/-- one stored -/
theorem Ow.setGate {w : World} {lo hi e n c g k : Nat} {ps : List (Int × Int × Int)} (h : Ow w lo hi e 3 (some ⟨g, 0, none⟩) n c (cGate ps)) (x y z : Int) :
    Ow (((w.setCell ⟨g, k * 3, none⟩ (.int .i64 x)).setCell ⟨g, k * 3 + 1, none⟩ (.int .i64 y)).setCell ⟨g, k * 3 + 2, none⟩ (.int .i64 z)) lo hi e 3 (some ⟨g, 0, none⟩) n c (cGate (ps.set k (x, y, z))) := by
  have := (((h.set (k * 3) (.int .i64 x)).set (k * 3 + 1) (.int .i64 y)).set (k * 3 + 2) (.int .i64 z))
  rw [cGate_set] at this; exact this

set_option maxHeartbeats 1000000 in
theorem l_toGateS (A : Option Addr) (n c : Nat) (ps : List (Int × Int × Int)) (w : World) (h : Rd w w.heap.size 3 A n (cGate ps)) (hn : n ≤ 1048576) :
    Calls Try.prog 116 #[.slice A n c] w fun e w' => e = .returned (.slice (some ⟨w.heap.size, 0, none⟩) n n) ∧ Ow w' w.heap.size (w.heap.size + 1) 154 3 (some ⟨w.heap.size, 0, none⟩) n n (cGate ps) ∧ Below w.heap.size w w' ∧ w.heap.size < w'.heap.size := by
  have hmk := fun W => run_makeN (P := Try.prog) Try.underlying88 info_Gate n (by omega) (by omega) W
  have hlen : Hid (ps.length = n) := Lib.hid h.Gatelen
  have H := Lib.hid h
  clear h
  go_enter Try.func116, Try.ntmps116
  go_wp2
  go_loopw [4] (fun i wr => ∃ k : Nat, k ≤ n ∧ i = .int .i64 k ∧ Hid (Ow wr w.heap.size (w.heap.size + 1) 154 3 (some ⟨w.heap.size, 0, none⟩) n n (cGate (ps.take k ++ List.replicate (n - k) (0, 0, 0)))) ∧ Hid (Below w.heap.size w wr) ∧ Hid (w.heap.size < wr.heap.size)) (fun i _ => n - (intOf i).toNat)
  case atStart => exact ⟨0, Nat.zero_le _, rfl, Lib.hid (by rw [List.take_zero, List.nil_append, Nat.sub_zero, ← made_Gate]; exact Ow.new _ _ _ _ _ (size_madeCells _ _)), Lib.hid ((Below.refl _ _).alloc (Nat.le_refl _) _), Lib.hid (by simp)⟩
  case round =>
    obtain ⟨k, hk, rfl, HO, HB, HS⟩ := hrel
    by_cases hlt : k < n
    · obtain ⟨a, x, y, z, rfl, hab, hcx0, hcy0, hcz0, HP⟩ := H.out.GateAt hlt
      have hcx := (HB.out.cell (p := a.add (k * 3)) (by rw [add_block]; exact hab)).trans hcx0
      have hcy := (HB.out.cell (p := ⟨(a.add (k * 3)).block, (a.add (k * 3)).off + 1, none⟩) (by rw [add_block]; exact hab)).trans hcy0
      have hcz := (HB.out.cell (p := ⟨(a.add (k * 3)).block, (a.add (k * 3)).off + 2, none⟩) (by rw [add_block]; exact hab)).trans hcz0
      clear hcx0 hcy0 hcz0
      go_wp2_with fail
      refine (l_toGate _ _ _ _).mono ?_
      rintro e w2 ⟨rfl, hb⟩
      have hz := hb.size
      have HO1 := Lib.hid (HO.out.below hb (by have := HS.out; omega))
      have HB1 : Hid (Below w.heap.size w w2) := Lib.hid (HB.out.trans (hb.mono HB.out.size))
      have HS1 : Hid (w.heap.size < w2.heap.size) := Lib.hid (by have := HS.out; omega)
      have hlt2 : k * 3 + 2 < n * 3 := by omega
      have hlen2 : (cGate (ps.take k ++ List.replicate (n - k) (0, 0, 0))).length = n * 3 := by have := HO1.out.1; exact this
      obtain ⟨u0, hu0⟩ : ∃ u, w2.cell? ⟨w.heap.size, k * 3, none⟩ = some u := ⟨_, HO1.out.cellAt (List.getElem?_eq_getElem (by omega))⟩
      obtain ⟨u1, hu1⟩ : ∃ u, w2.cell? ⟨w.heap.size, k * 3 + 1, none⟩ = some u := ⟨_, HO1.out.cellAt (List.getElem?_eq_getElem (by omega))⟩
      obtain ⟨u2, hu2⟩ : ∃ u, w2.cell? ⟨w.heap.size, k * 3 + 2, none⟩ = some u := ⟨_, HO1.out.cellAt (List.getElem?_eq_getElem (by omega))⟩
      have hf0 := HO1.out.free (by omega) (k * 3)
      have hf1 := HO1.out.free (by omega) (k * 3 + 1)
      have hf2 := HO1.out.free (by omega) (k * 3 + 2)
      have HO2 := Lib.hid (HO1.out.setGate (k := k) x y z)
      rw [copy_Gate hlen.out hlt HP.out] at HO2
      clear hcx hcy hcz hb hz HO HB HS HO1 hlen2
      go_wp2
      go_roundw
      case rel => exact ⟨k + 1, by omega, by go_num, HO2, Lib.hid (((HB1.out.setCell (p := ⟨w.heap.size, k * 3, none⟩) (Nat.le_refl _) (_)).setCell (p := ⟨w.heap.size, k * 3 + 1, none⟩) (Nat.le_refl _) (_)).setCell (p := ⟨w.heap.size, k * 3 + 2, none⟩) (Nat.le_refl _) (_)), Lib.hid (by rw [World.size_setCell, World.size_setCell, World.size_setCell]; exact HS1.out)⟩
      case measure => simp [intOf] <;> omega
    · have hkn : k = n := by omega
      have HO2 : Hid (Ow wr w.heap.size (w.heap.size + 1) 154 3 (some ⟨w.heap.size, 0, none⟩) n n (cGate ps)) := Lib.hid (by
        have := HO.out; rw [hkn, List.take_of_length_le (by have := hlen.out; omega), Nat.sub_self, List.replicate_zero, List.append_nil] at this; exact this)
      clear HO hkn
      go_wp2
      go_ret
      exact ⟨rfl, HO2.out, HB.out, HS.out⟩

/-- marked one behind the other -/
def iotaGate (K : Int) (n : Nat) : List (Int × Int × Int) := (List.range n).map fun i : Nat => (K + 3 * (i : Int), K + 3 * (i : Int) + 1, K + 3 * (i : Int) + 1 + 1)
theorem iotaGate_length (K : Int) (n : Nat) : (iotaGate K n).length = n := by simp [iotaGate]
theorem iotaGate_succ (K : Int) (n : Nat) : iotaGate K (n + 1) = iotaGate K n ++ [(K + 3 * (n : Int), K + 3 * (n : Int) + 1, K + 3 * (n : Int) + 1 + 1)] := by simp [iotaGate, List.range_succ]
theorem iotaGate_get (K : Int) (n k : Nat) (h : k < n) : (iotaGate K n).getD k (0, 0, 0) = (K + 3 * (k : Int), K + 3 * (k : Int) + 1, K + 3 * (k : Int) + 1 + 1) := by simp [iotaGate, h]
theorem mark_Gate {ps : List (Int × Int × Int)} {n k : Nat} (K : Int) (hz : ps.length = n) (hk : k < n) : (iotaGate K k ++ ps.drop k).set k (K + 3 * (k : Int), K + 3 * (k : Int) + 1, K + 3 * (k : Int) + 1 + 1) = iotaGate K (k + 1) ++ ps.drop (k + 1) := by
  have hl := iotaGate_length K k
  have hk' : k < ps.length := by omega
  rw [List.set_append_right _ _ (by omega), hl, Nat.sub_self, iotaGate_succ, List.append_assoc, List.drop_eq_getElem_cons hk', List.set_cons_zero, List.singleton_append]

set_option maxHeartbeats 1000000 in
theorem l_markGateS (A : Option Addr) (n c lo hi : Nat) (ps : List (Int × Int × Int)) (K : Int) (w : World) (h : Ow w lo hi 154 3 A n c (cGate ps)) (hn : n ≤ 1048576) (hK : 0 ≤ K) (hK2 : K ≤ 1000000000000) :
    Calls Try.prog 120 #[.slice A n c, .int .i64 K] w fun e w' => e = .returned (.int .i64 (K + 3 * n)) ∧ Ow w' lo hi 154 3 A n c (cGate (iotaGate K n)) ∧ Kept lo hi w w' := by
  have hlen : Hid (ps.length = n) := Lib.hid h.Gatelen
  have H := Lib.hid h
  clear h
  go_enter Try.func120, Try.ntmps120
  go_wp2
  go_loopw [1, 5] (fun kk i wr => ∃ k : Nat, k ≤ n ∧ i = .int .i64 k ∧ kk = .int .i64 (K + 3 * k) ∧ Hid (Ow wr lo hi 154 3 A n c (cGate (iotaGate K k ++ ps.drop k))) ∧ Hid (Kept lo hi w wr)) (fun _ i _ => n - (intOf i).toNat)
  case atStart => exact ⟨0, Nat.zero_le _, rfl, by go_num, H, Lib.hid (Kept.refl _ _ _)⟩
  case round =>
    obtain ⟨k, hk, rfl, rfl, HO, HB⟩ := hrel
    by_cases hlt : k < n
    · obtain ⟨g, cs, hA, g1, g2, _, _⟩ := HO.out.lt (by omega)
      subst hA
      have hlen2 : (cGate (iotaGate K k ++ ps.drop k)).length = n * 3 := HO.out.1
      obtain ⟨u0, hu0⟩ : ∃ u, wr.cell? ⟨g, k * 3, none⟩ = some u := ⟨_, HO.out.cellAt (List.getElem?_eq_getElem (by omega))⟩
      obtain ⟨u1, hu1⟩ : ∃ u, wr.cell? ⟨g, k * 3 + 1, none⟩ = some u := ⟨_, HO.out.cellAt (List.getElem?_eq_getElem (by omega))⟩
      obtain ⟨u2, hu2⟩ : ∃ u, wr.cell? ⟨g, k * 3 + 2, none⟩ = some u := ⟨_, HO.out.cellAt (List.getElem?_eq_getElem (by omega))⟩
      have hf0 := HO.out.free (by omega) (k * 3)
      have hf1 := HO.out.free (by omega) (k * 3 + 1)
      have hf2 := HO.out.free (by omega) (k * 3 + 2)
      have HO2 := Lib.hid (HO.out.setGate (k := k) (K + 3 * (k : Int)) (K + 3 * (k : Int) + 1) (K + 3 * (k : Int) + 1 + 1))
      rw [mark_Gate K hlen.out hlt] at HO2
      have HB2 := Lib.hid (((HB.out.setCell (p := ⟨g, k * 3, none⟩) g1 g2 (.int .i64 (K + 3 * (k : Int)))).setCell (p := ⟨g, k * 3 + 1, none⟩) g1 g2 (.int .i64 (K + 3 * (k : Int) + 1))).setCell (p := ⟨g, k * 3 + 2, none⟩) g1 g2 (.int .i64 (K + 3 * (k : Int) + 1 + 1)))
      clear HO HB hlen2
      go_wp2
      go_roundw
      case rel => exact ⟨k + 1, by omega, by go_num, by go_num, HO2, HB2⟩
      case measure => simp [intOf] <;> omega
    · have hkn : k = n := by omega
      have HO2 : Hid (Ow wr lo hi 154 3 A n c (cGate (iotaGate K n))) := Lib.hid (by
        have := HO.out; rw [hkn, List.drop_of_length_le (by have := hlen.out; omega), List.append_nil] at this; exact this)
      have HR : Hid (K + 3 * (k : Int) = K + 3 * (n : Int)) := Lib.hid (by rw [hkn])
      clear HO hkn
      go_wp2
      go_ret
      exact ⟨ret_int HR.out, HO2.out, HB.out⟩

set_option maxHeartbeats 400000 in
theorem l_szGateS (A : Option Addr) (n c : Nat) (left : Int) (w : World) (hn : n ≤ 9223372036854775807) (hl : 0 ≤ left) (hl2 : left ≤ 1048576) :
    Calls Try.prog 114 #[.slice A n c, .int .i64 left] w fun e w' => e = .returned (.int .i64 (if (n : Int) ≤ left then left - n else -1)) ∧ w = w' := by
  by_cases h : (n : Int) ≤ left
  all_goals
    go_enter Try.func114, Try.ntmps114
    go_wp2
    go_ret
    exact ⟨rfl, rfl⟩

set_option maxHeartbeats 1000000 in
theorem l_heldGateS (A : Option Addr) (n c hi : Nat) (K : Int) (w : World) (h : Rd w hi 3 A n (cGate (iotaGate K n))) (hn : n ≤ 1048576) (hK : 0 ≤ K) (hK2 : K ≤ 1000000000000) :
    Calls Try.prog 121 #[.slice A n c, .int .i64 K] w fun e w' => e = .returned (.int .i64 (K + 3 * n)) ∧ Still w w' := by
  have H := Lib.hid h
  clear h
  go_enter Try.func121, Try.ntmps121
  go_wp2
  go_loopw [1, 5] (fun kk i wr => ∃ k m : Nat, k ≤ n ∧ i = .int .i64 k ∧ kk = .int .i64 (K + 3 * k) ∧ wr = w.drewN m) (fun _ i _ => n - (intOf i).toNat)
  case atStart => exact ⟨0, 0, Nat.zero_le _, rfl, by go_num, rfl⟩
  case round =>
    obtain ⟨k, m, hk, rfl, rfl, rfl⟩ := hrel
    by_cases hlt : k < n
    · obtain ⟨a, x, y, z, rfl, hab, hcx, hcy, hcz, HP⟩ := H.out.GateAt hlt
      have hp := HP.out
      rw [iotaGate_get K n k hlt] at hp
      injection hp with hp0 hq1
      injection hq1 with hp1 hp2
      subst hp0
      subst hp1
      subst hp2
      have i0 : (0 : Int) ≤ (k : Int) := by omega
      have i1 : (k : Int) < (n : Int) := by omega
      clear HP
      go_wp2
      repeat (go_quiet (fail); go_wp2)
      go_roundw
      case rel => exact ⟨k + 1, _, by omega, by go_num, by go_num, rfl⟩
      case measure => simp [intOf] <;> omega
    · have hkn : k = n := by omega
      have HR : Hid (K + 3 * (k : Int) = K + 3 * (n : Int)) := Lib.hid (by rw [hkn])
      clear hkn
      go_wp2
      go_ret
      exact ⟨ret_int HR.out, m, rfl⟩

/-! as whole values -/
def RdGateS (w : World) (hi : Nat) (v : Value) (d : List (Int × Int × Int)) : Prop := ∃ A n c, v = .slice A n c ∧ n ≤ 9223372036854775807 ∧ Rd w hi 3 A n (cGate d)
def OwGateS (w : World) (lo hi : Nat) (v : Value) (d : List (Int × Int × Int)) : Prop := d.length ≤ 1048576 ∧ ∃ A n c, v = .slice A n c ∧ Ow w lo hi 154 3 A n c (cGate d)
def szGateS (d : List (Int × Int × Int)) : Nat := d.length
def mkGateS (K : Int) (d : List (Int × Int × Int)) : List (Int × Int × Int) := iotaGate K d.length
section
variable {w w' : World} {lo hi lo' hi' B mid : Nat} {v : Value} {d : List (Int × Int × Int)}
theorem RdGateS.below (h : RdGateS w hi v d) (hb : Below hi w w') : RdGateS w' hi v d := by
  obtain ⟨A, n, c, rfl, hn, r⟩ := h; exact ⟨A, n, c, rfl, hn, r.below hb⟩
theorem RdGateS.more (h : RdGateS w hi v d) (hh : hi ≤ hi') : RdGateS w hi' v d := by
  obtain ⟨A, n, c, rfl, hn, r⟩ := h; exact ⟨A, n, c, rfl, hn, r.more hh⟩
theorem OwGateS.small (h : OwGateS w lo hi v d) : szGateS d ≤ 1048576 := h.1
theorem OwGateS.rd (h : OwGateS w lo hi v d) : RdGateS w hi v d := by
  obtain ⟨hs, A, n, c, rfl, r⟩ := h
  exact ⟨A, n, c, rfl, by have := r.Gatelen; omega, r.rd⟩
theorem OwGateS.below (h : OwGateS w lo hi v d) (hb : Below B w w') (hz : hi ≤ B) : OwGateS w' lo hi v d := by
  obtain ⟨hs, A, n, c, rfl, r⟩ := h; exact ⟨hs, A, n, c, rfl, r.below hb hz⟩
theorem OwGateS.kept (h : OwGateS w lo hi v d) (hk : Kept lo' mid w w') (hz : hi ≤ w.heap.size) (hd : mid ≤ lo ∨ hi ≤ lo') : OwGateS w' lo hi v d := by
  obtain ⟨hs, A, n, c, rfl, r⟩ := h; exact ⟨hs, A, n, c, rfl, r.kept hk hz hd⟩
theorem OwGateS.widen (h : OwGateS w lo hi v d) (h1 : lo' ≤ lo) (h2 : hi ≤ hi') : OwGateS w lo' hi' v d := by
  obtain ⟨hs, A, n, c, rfl, r⟩ := h; exact ⟨hs, A, n, c, rfl, r.widen h1 h2⟩
end
theorem OwGateS.nil_ (w : World) (lo hi : Nat) : OwGateS w lo hi (.slice none 0 0) [] := ⟨by simp, none, 0, 0, rfl, by simp [cGate], Nat.le_refl _, .inl rfl⟩
theorem RdGateS.nil_ (w : World) (hi : Nat) : RdGateS w hi (.slice none 0 0) [] := ⟨none, 0, 0, rfl, by omega, by simp [cGate], fun h => by omega⟩

theorem L_toGateS (hi : Nat) (v : Value) (d : List (Int × Int × Int)) (w : World) (h : RdGateS w hi v d) (hh : hi ≤ w.heap.size) (hs : szGateS d ≤ 1048576) :
    Calls Try.prog 116 #[v] w fun e w' => ∃ v', e = .returned v' ∧ OwGateS w' w.heap.size w'.heap.size v' d ∧ Below w.heap.size w w' := by
  obtain ⟨A, n, c, rfl, _, r⟩ := h
  have hl := r.Gatelen
  unfold szGateS at hs
  exact (l_toGateS A n c d w (r.more hh) (by omega)).mono fun e w' ⟨he, ho, hb, hz⟩ => ⟨_, he, ⟨hs, _, _, _, rfl, ho.widen (Nat.le_refl _) hz⟩, hb⟩

theorem L_eqGateS (hi hi' : Nat) (v v' : Value) (d : List (Int × Int × Int)) (w : World) (h : RdGateS w hi v d) (h' : RdGateS w hi' v' d) (hh : hi ≤ w.heap.size) (hh' : hi' ≤ w.heap.size) (hs : szGateS d ≤ 1048576) :
    Calls Try.prog 119 #[v, v'] w fun e w' => e = .returned (.bool true) ∧ Below w.heap.size w w' := by
  obtain ⟨A, n, c, rfl, _, r⟩ := h
  obtain ⟨A', n', c', rfl, _, r'⟩ := h'
  have hl := r.Gatelen
  have hl' := r'.Gatelen
  obtain rfl : n' = n := by omega
  unfold szGateS at hs
  exact l_eqGateS A A' _ c c' d w (r.more hh) (r'.more hh') (by omega)

theorem L_markGateS (lo hi : Nat) (v : Value) (d : List (Int × Int × Int)) (K : Int) (w : World) (h : OwGateS w lo hi v d) (_hz : hi ≤ w.heap.size) (hK : 0 ≤ K) (hK2 : K ≤ 1000000000) :
    Calls Try.prog 120 #[v, .int .i64 K] w fun e w' => ∃ K', e = .returned (.int .i64 K') ∧ Hid (K' = K + 3 * szGateS d) ∧ 0 ≤ K' ∧ K' ≤ K + 3145728 ∧ OwGateS w' lo hi v (mkGateS K d) ∧ Kept lo hi w w' := by
  obtain ⟨hs, A, n, c, rfl, r⟩ := h
  have hl := r.Gatelen
  refine (l_markGateS A n c lo hi d K w r (by omega) hK (by omega)).mono fun e w' ⟨he, ho, hk⟩ => ?_
  refine ⟨_, he, Lib.hid (by unfold szGateS; omega), by omega, by omega, ⟨by rw [mkGateS, iotaGate_length]; exact hs, _, _, _, rfl, ?_⟩, hk⟩
  unfold mkGateS; rw [hl]; exact ho

theorem L_heldGateS (hi : Nat) (v : Value) (d : List (Int × Int × Int)) (K q : Int) (w : World) (h : RdGateS w hi v (mkGateS K d)) (_hz : hi ≤ w.heap.size) (hs : szGateS d ≤ 1048576) (hq : Hid (q = K)) (hK : 0 ≤ K) (hK2 : K ≤ 1000000000) :
    Calls Try.prog 121 #[v, .int .i64 q] w fun e w' => ∃ K', e = .returned (.int .i64 K') ∧ Hid (K' = K + 3 * szGateS d) ∧ 0 ≤ K' ∧ K' ≤ K + 3145728 ∧ Below w.heap.size w w' := by
  obtain ⟨A, n, c, rfl, _, r⟩ := h
  have hl := r.Gatelen
  rw [mkGateS, iotaGate_length] at hl
  unfold szGateS at hs
  obtain rfl : q = K := hq.out
  unfold mkGateS at r; rw [hl] at r
  refine (l_heldGateS A n c hi q w r (by omega) hK (by omega)).mono fun e w' ⟨he, hk⟩ => ?_
  exact ⟨_, he, Lib.hid (by unfold szGateS; omega), by omega, by omega, hk.below _⟩

theorem L_szGateS_ok (hi : Nat) (v : Value) (d : List (Int × Int × Int)) (left : Int) (w : World) (h : RdGateS w hi v d) (hl0 : 0 ≤ left) (hl1 : left ≤ 1048576) (hl : (szGateS d : Nat) ≤ left) :
    Calls Try.prog 114 #[v, .int .i64 left] w fun e w' => ∃ L', e = .returned (.int .i64 L') ∧ Hid (L' = left - szGateS d) ∧ 0 ≤ L' ∧ L' ≤ left ∧ Below w.heap.size w w' := by
  obtain ⟨A, n, c, rfl, hn, r⟩ := h
  have hn2 := r.Gatelen
  unfold szGateS at hl
  refine (l_szGateS A n c left w hn hl0 hl1).mono fun e w' ⟨he, hw⟩ => ⟨_, he, Lib.hid ?_, ?_, ?_, hw ▸ Below.refl _ _⟩
  · rw [if_pos (by omega)]; unfold szGateS; omega
  · rw [if_pos (by omega)]; omega
  · rw [if_pos (by omega)]; omega
theorem L_szGateS_no (hi : Nat) (v : Value) (d : List (Int × Int × Int)) (left : Int) (w : World) (h : RdGateS w hi v d) (hl0 : 0 ≤ left) (hl1 : left ≤ 1048576) (hl : left < (szGateS d : Nat)) :
    Calls Try.prog 114 #[v, .int .i64 left] w fun e w' => e = .returned (.int .i64 (-1)) ∧ Below w.heap.size w w' := by
  obtain ⟨A, n, c, rfl, hn, r⟩ := h
  have hn2 := r.Gatelen
  unfold szGateS at hl
  refine (l_szGateS A n c left w hn hl0 hl1).mono fun e w' ⟨he, hw⟩ => ⟨?_, hw ▸ Below.refl _ _⟩
  rw [he, if_neg (by omega)]
end Go.Proofs.Ytipdflbnnmghdaa
