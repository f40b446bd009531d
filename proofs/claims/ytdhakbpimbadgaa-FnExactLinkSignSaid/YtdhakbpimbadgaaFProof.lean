/- Lists of structs of 3 ints (Proof): as cells; what reads and what is owned; the laws' helpers over them. Made by tools/genflat.py. -/
import Derived.Test.YtdhakbpimbadgaaFaceI
import Derived.Test.YtdhakbpimbadgaaPts
import Derived.StillTailTactics
namespace Go.Proofs.Ytdhakbpimbadgaa
open Go.RowKit
set_option maxRecDepth 100000

def cProof (ps : List (Int × Int × Int)) : List Value := ps.flatMap fun p => [.int .i64 (p.1), .int .i64 (p.2.1), .int .i64 (p.2.2)]
theorem cProof_length (ps : List (Int × Int × Int)) : (cProof ps).length = ps.length * 3 := by
  induction ps with
  | nil => rfl
  | cons p t ih => simp only [cProof, List.flatMap_cons, List.length_append, List.length_cons, List.length_nil] at *; omega
theorem cProof_cons (p : Int × Int × Int) (t : List (Int × Int × Int)) : cProof (p :: t) = .int .i64 (p.1) :: .int .i64 (p.2.1) :: .int .i64 (p.2.2) :: cProof t := rfl
theorem cProof_get0 (ps : List (Int × Int × Int)) (k : Nat) (h : k < ps.length) : (cProof ps)[k * 3]? = some (.int .i64 ((ps.getD k (0, 0, 0)).1)) := by
  induction ps generalizing k with
  | nil => simp at h
  | cons p t ih =>
    cases k with
    | zero => simp [cProof_cons]
    | succ k => rw [cProof_cons, show (k + 1) * 3 = k * 3 + 1 + 1 + 1 by omega, List.getElem?_cons_succ, List.getElem?_cons_succ, List.getElem?_cons_succ, ih k (by simpa using h)]; rfl
theorem cProof_get1 (ps : List (Int × Int × Int)) (k : Nat) (h : k < ps.length) : (cProof ps)[k * 3 + 1]? = some (.int .i64 ((ps.getD k (0, 0, 0)).2.1)) := by
  induction ps generalizing k with
  | nil => simp at h
  | cons p t ih =>
    cases k with
    | zero => simp [cProof_cons]
    | succ k => rw [cProof_cons, show (k + 1) * 3 + 1 = k * 3 + 1 + 1 + 1 + 1 by omega, List.getElem?_cons_succ, List.getElem?_cons_succ, List.getElem?_cons_succ, ih k (by simpa using h)]; rfl
theorem cProof_get2 (ps : List (Int × Int × Int)) (k : Nat) (h : k < ps.length) : (cProof ps)[k * 3 + 2]? = some (.int .i64 ((ps.getD k (0, 0, 0)).2.2)) := by
  induction ps generalizing k with
  | nil => simp at h
  | cons p t ih =>
    cases k with
    | zero => simp [cProof_cons]
    | succ k => rw [cProof_cons, show (k + 1) * 3 + 2 = k * 3 + 2 + 1 + 1 + 1 by omega, List.getElem?_cons_succ, List.getElem?_cons_succ, List.getElem?_cons_succ, ih k (by simpa using h)]; rfl
theorem cProof_set (ps : List (Int × Int × Int)) (k : Nat) (x : Int) (y : Int) (z : Int) : (((cProof ps).set (k * 3) (.int .i64 x)).set (k * 3 + 1) (.int .i64 y)).set (k * 3 + 2) (.int .i64 z) = cProof (ps.set k (x, y, z)) := by
  induction ps generalizing k with
  | nil => rfl
  | cons p t ih =>
    cases k with
    | zero => rfl
    | succ k =>
      have e0 : (k + 1) * 3 = k * 3 + 1 + 1 + 1 := by omega
      have e1 : (k + 1) * 3 + 1 = k * 3 + 1 + 1 + 1 + 1 := by omega
      have e2 : (k + 1) * 3 + 2 = k * 3 + 2 + 1 + 1 + 1 := by omega
      rw [cProof_cons, e2, e1, e0, List.set_cons_succ, List.set_cons_succ, List.set_cons_succ, List.set_cons_succ, List.set_cons_succ, List.set_cons_succ, List.set_cons_succ, List.set_cons_succ, List.set_cons_succ, ih k, List.set_cons_succ, cProof_cons]

theorem Rd.Prooflen {w : World} {hi n : Nat} {A : Option Addr} {ps : List (Int × Int × Int)} (h : Rd w hi 3 A n (cProof ps)) : ps.length = n := by have := h.1; rw [cProof_length] at this; omega
theorem Ow.Prooflen {w : World} {lo hi e n c : Nat} {A : Option Addr} {ps : List (Int × Int × Int)} (h : Ow w lo hi e 3 A n c (cProof ps)) : ps.length = n := by have := h.1; rw [cProof_length] at this; omega
theorem Rd.ProofAt {w : World} {hi n k : Nat} {A : Option Addr} {ps : List (Int × Int × Int)} (h : Rd w hi 3 A n (cProof ps)) (hk : k < n) :
    ∃ (a : Addr) (x : Int) (y : Int) (z : Int), A = some a ∧ a.block < hi ∧ w.cell? (a.add (k * 3)) = some (.int .i64 x) ∧ w.cell? ⟨(a.add (k * 3)).block, (a.add (k * 3)).off + 1, none⟩ = some (.int .i64 y) ∧ w.cell? ⟨(a.add (k * 3)).block, (a.add (k * 3)).off + 2, none⟩ = some (.int .i64 z) ∧ Hid (ps.getD k (0, 0, 0) = (x, y, z)) := by
  obtain ⟨a, e, hb, hc⟩ := h.2 (by omega)
  have hl := h.Prooflen
  exact ⟨a, _, _, _, e, hb, hc _ _ (cProof_get0 ps k (by omega)), by rw [add_next _ _ _ (by omega)]; exact hc _ _ (cProof_get1 ps k (by omega)), by rw [add_next _ _ _ (by omega)]; exact hc _ _ (cProof_get2 ps k (by omega)), Lib.hid rfl⟩

set_option maxHeartbeats 400000 in
theorem l_eqProof (x : Int) (y : Int) (z : Int) (w : World) :
    Calls Try.prog 48 #[.agg #[.int .i64 x, .int .i64 y, .int .i64 z], .agg #[.int .i64 x, .int .i64 y, .int .i64 z]] w fun e w' => e = .returned (.bool true) ∧ Below w.heap.size w w' := by
  go_enter Try.func48, Try.ntmps48
  go_wp2
  go_ret
  exact ⟨rfl, ((Below.refl _ _).alloc (Nat.le_refl _) _).alloc (by simp) _⟩

set_option maxHeartbeats 1000000 in
theorem l_eqProofS (A A' : Option Addr) (n c c' : Nat) (ps : List (Int × Int × Int)) (w : World) (h : Rd w w.heap.size 3 A n (cProof ps)) (h' : Rd w w.heap.size 3 A' n (cProof ps)) (hn : n ≤ 1048576) :
    Calls Try.prog 13 #[.slice A n c, .slice A' n c'] w fun e w' => e = .returned (.bool true) ∧ Below w.heap.size w w' := by
  have H := Lib.hid h
  have H' := Lib.hid h'
  clear h h'
  go_enter Try.func13, Try.ntmps13
  go_wp2
  go_loopw [5] (fun i wr => ∃ k : Nat, k ≤ n ∧ i = .int .i64 k ∧ Hid (Below w.heap.size w wr)) (fun i _ => n - (intOf i).toNat)
  case atStart => exact ⟨0, Nat.zero_le _, rfl, Lib.hid (Below.refl _ _)⟩
  case round =>
    obtain ⟨k, hk, rfl, HB⟩ := hrel
    by_cases hlt : k < n
    · obtain ⟨a, x, y, z, rfl, hab, hcx0, hcy0, hcz0, HP⟩ := H.out.ProofAt hlt
      obtain ⟨a', x', y', z', rfl, hab', hdx0, hdy0, hdz0, HP'⟩ := H'.out.ProofAt hlt
      obtain ⟨rfl, rfl, rfl⟩ : x' = x ∧ y' = y ∧ z' = z := by have := HP.out.symm.trans HP'.out; simpa using this.symm
      have i0 : (0 : Int) ≤ (k : Int) := by omega
      have i1 : (k : Int) < (n : Int) := by omega
      have hcx := (HB.out.cell (p := a.add (k * 3)) (by rw [add_block]; exact hab)).trans hcx0
      have hcy := (HB.out.cell (p := ⟨(a.add (k * 3)).block, (a.add (k * 3)).off + 1, none⟩) (by rw [add_block]; exact hab)).trans hcy0
      have hcz := (HB.out.cell (p := ⟨(a.add (k * 3)).block, (a.add (k * 3)).off + 2, none⟩) (by rw [add_block]; exact hab)).trans hcz0
      have hdx := (HB.out.cell (p := a'.add (k * 3)) (by rw [add_block]; exact hab')).trans hdx0
      have hdy := (HB.out.cell (p := ⟨(a'.add (k * 3)).block, (a'.add (k * 3)).off + 1, none⟩) (by rw [add_block]; exact hab')).trans hdy0
      have hdz := (HB.out.cell (p := ⟨(a'.add (k * 3)).block, (a'.add (k * 3)).off + 2, none⟩) (by rw [add_block]; exact hab')).trans hdz0
      clear hcx0 hcy0 hcz0 hdx0 hdy0 hdz0
      go_wp2
      go_still_tail 8, (by kernel_rfl)
      change wpList _ _ _ _ _ wr.drew
      go_wp2_with fail
      refine (l_eqProof _ _ _ _).mono ?_
      rintro e w2 ⟨rfl, hb⟩
      have HB2 : Hid (Below w.heap.size w w2) := Lib.hid (HB.out.drew.trans (hb.mono HB.out.size))
      clear hcx hcy hcz hdx hdy hdz hb HB
      go_wp2
      go_roundw
      case rel => exact ⟨k + 1, by omega, by go_num, HB2⟩
      case measure => simp [intOf] <;> omega
    · go_wp2
      go_ret
      exact ⟨rfl, HB.out⟩

theorem info_Proof : (Try.prog.info? 54).map (fun i => (i.zero, i.size, i.bytes)) = some (some (.agg #[.int .i64 0, .int .i64 0, .int .i64 0]), 3, 24) := by kernel_rfl
theorem made_Proof (n : Nat) : (madeCells #[.int .i64 0, .int .i64 0, .int .i64 0] (n * 3)).toList = cProof (List.replicate n (0, 0, 0)) := by
  apply List.ext_getElem?
  intro j
  by_cases hj : j < n * 3
  · obtain ⟨k, hk⟩ : ∃ k, j / 3 = k := ⟨_, rfl⟩
    have h2 : j = k * 3 ∨ j = k * 3 + 1 ∨ j = k * 3 + 2 := by omega
    have hkn : k < (List.replicate n ((0, 0, 0) : Int × Int × Int)).length := by rw [List.length_replicate]; omega
    have hkn2 : k < n := by omega
    clear hk
    rcases h2 with rfl | rfl | rfl
    · rw [cProof_get0 _ k hkn]; simp [madeCells, hj, hkn2, show (k * 3) % 3 = 0 by omega]
    · rw [cProof_get1 _ k hkn]; simp [madeCells, hj, hkn2, show (k * 3 + 1) % 3 = 1 by omega]
    · rw [cProof_get2 _ k hkn]; simp [madeCells, hj, hkn2, show (k * 3 + 2) % 3 = 2 by omega]
  · rw [List.getElem?_eq_none (by simp [madeCells]; omega), List.getElem?_eq_none (by rw [cProof_length, List.length_replicate]; omega)]
theorem copy_Proof {ps : List (Int × Int × Int)} {n k : Nat} {x : Int} {y : Int} {z : Int} (hz : ps.length = n) (hk : k < n) (hp : ps.getD k (0, 0, 0) = (x, y, z)) : (ps.take k ++ List.replicate (n - k) (0, 0, 0)).set k (x, y, z) = ps.take (k + 1) ++ List.replicate (n - (k + 1)) (0, 0, 0) := by
  have hl : (ps.take k).length = k := by simp; omega
  rw [List.set_append_right _ _ (by omega), hl, Nat.sub_self, show n - k = (n - (k + 1)) + 1 by omega, List.replicate_succ]
  have hk' : k < ps.length := by omega
  rw [List.set_cons_zero, List.take_succ_eq_append_getElem hk', List.append_assoc, List.singleton_append]
  have : ps[k] = (x, y, z) := by rw [← hp]; simp [hk']
  rw [this]
/-- one stored -/
theorem Ow.setProof {w : World} {lo hi e n c g k : Nat} {ps : List (Int × Int × Int)} (h : Ow w lo hi e 3 (some ⟨g, 0, none⟩) n c (cProof ps)) (x : Int) (y : Int) (z : Int) :
    Ow (((w.setCell ⟨g, k * 3, none⟩ (.int .i64 x)).setCell ⟨g, k * 3 + 1, none⟩ (.int .i64 y)).setCell ⟨g, k * 3 + 2, none⟩ (.int .i64 z)) lo hi e 3 (some ⟨g, 0, none⟩) n c (cProof (ps.set k (x, y, z))) := by
  have := (((h.set (k * 3) (.int .i64 x)).set (k * 3 + 1) (.int .i64 y)).set (k * 3 + 2) (.int .i64 z))
  rw [cProof_set] at this; exact this

/-- marked one behind the other -/
def iotaProof (K : Int) (n : Nat) : List (Int × Int × Int) := (List.range n).map fun i : Nat => (K + 3 * (i : Int), K + 3 * (i : Int) + 1, K + 3 * (i : Int) + 1 + 1)
theorem iotaProof_length (K : Int) (n : Nat) : (iotaProof K n).length = n := by simp [iotaProof]
theorem iotaProof_succ (K : Int) (n : Nat) : iotaProof K (n + 1) = iotaProof K n ++ [(K + 3 * (n : Int), K + 3 * (n : Int) + 1, K + 3 * (n : Int) + 1 + 1)] := by simp [iotaProof, List.range_succ]
theorem iotaProof_get (K : Int) (n k : Nat) (h : k < n) : (iotaProof K n).getD k (0, 0, 0) = (K + 3 * (k : Int), K + 3 * (k : Int) + 1, K + 3 * (k : Int) + 1 + 1) := by simp [iotaProof, h]
theorem mark_Proof {ps : List (Int × Int × Int)} {n k : Nat} (K : Int) (hz : ps.length = n) (hk : k < n) : (iotaProof K k ++ ps.drop k).set k (K + 3 * (k : Int), K + 3 * (k : Int) + 1, K + 3 * (k : Int) + 1 + 1) = iotaProof K (k + 1) ++ ps.drop (k + 1) := by
  have hl := iotaProof_length K k
  have hk' : k < ps.length := by omega
  rw [List.set_append_right _ _ (by omega), hl, Nat.sub_self, iotaProof_succ, List.append_assoc, List.drop_eq_getElem_cons hk', List.set_cons_zero, List.singleton_append]

set_option maxHeartbeats 1000000 in
theorem l_markProofS (A : Option Addr) (n c lo hi : Nat) (ps : List (Int × Int × Int)) (K : Int) (w : World) (h : Ow w lo hi 54 3 A n c (cProof ps)) (hn : n ≤ 1048576) (hK : 0 ≤ K) (hK2 : K ≤ 1000000000000) :
    Calls Try.prog 16 #[.slice A n c, .int .i64 K] w fun e w' => e = .returned (.int .i64 (K + 3 * n)) ∧ Ow w' lo hi 54 3 A n c (cProof (iotaProof K n)) ∧ Kept lo hi w w' := by
  have hlen : Hid (ps.length = n) := Lib.hid h.Prooflen
  have H := Lib.hid h
  clear h
  go_enter Try.func16, Try.ntmps16
  go_wp2
  go_loopw [1, 5] (fun kk i wr => ∃ k : Nat, k ≤ n ∧ i = .int .i64 k ∧ kk = .int .i64 (K + 3 * k) ∧ Hid (Ow wr lo hi 54 3 A n c (cProof (iotaProof K k ++ ps.drop k))) ∧ Hid (Kept lo hi w wr)) (fun _ i _ => n - (intOf i).toNat)
  case atStart => exact ⟨0, Nat.zero_le _, rfl, by go_num, H, Lib.hid (Kept.refl _ _ _)⟩
  case round =>
    obtain ⟨k, hk, rfl, rfl, HO, HB⟩ := hrel
    by_cases hlt : k < n
    · obtain ⟨g, cs, hA, g1, g2, _, _⟩ := HO.out.lt (by omega)
      subst hA
      have hlen2 : (cProof (iotaProof K k ++ ps.drop k)).length = n * 3 := HO.out.1
      obtain ⟨u0, hu0⟩ : ∃ u, wr.cell? ⟨g, k * 3, none⟩ = some u := ⟨_, HO.out.cellAt (List.getElem?_eq_getElem (by omega))⟩
      obtain ⟨u1, hu1⟩ : ∃ u, wr.cell? ⟨g, k * 3 + 1, none⟩ = some u := ⟨_, HO.out.cellAt (List.getElem?_eq_getElem (by omega))⟩
      obtain ⟨u2, hu2⟩ : ∃ u, wr.cell? ⟨g, k * 3 + 2, none⟩ = some u := ⟨_, HO.out.cellAt (List.getElem?_eq_getElem (by omega))⟩
      have hf0 := HO.out.free (by omega) (k * 3)
      have hf1 := HO.out.free (by omega) (k * 3 + 1)
      have hf2 := HO.out.free (by omega) (k * 3 + 2)
      have HO2 := Lib.hid (HO.out.setProof (k := k) (K + 3 * (k : Int)) (K + 3 * (k : Int) + 1) (K + 3 * (k : Int) + 1 + 1))
      rw [mark_Proof K hlen.out hlt] at HO2
      have HB2 := Lib.hid (((HB.out.setCell (p := ⟨g, k * 3, none⟩) g1 g2 (.int .i64 (K + 3 * (k : Int)))).setCell (p := ⟨g, k * 3 + 1, none⟩) g1 g2 (.int .i64 (K + 3 * (k : Int) + 1))).setCell (p := ⟨g, k * 3 + 2, none⟩) g1 g2 (.int .i64 (K + 3 * (k : Int) + 1 + 1)))
      clear HO HB hlen2
      go_wp2
      go_roundw
      case rel => exact ⟨k + 1, by omega, by go_num, by go_num, HO2, HB2⟩
      case measure => simp [intOf] <;> omega
    · have hkn : k = n := by omega
      have HO2 : Hid (Ow wr lo hi 54 3 A n c (cProof (iotaProof K n))) := Lib.hid (by
        have := HO.out; rw [hkn, List.drop_of_length_le (by have := hlen.out; omega), List.append_nil] at this; exact this)
      have HR : Hid (K + 3 * (k : Int) = K + 3 * (n : Int)) := Lib.hid (by rw [hkn])
      clear HO hkn
      go_wp2
      go_ret
      exact ⟨ret_int HR.out, HO2.out, HB.out⟩

set_option maxHeartbeats 1000000 in
theorem l_heldProofS (A : Option Addr) (n c hi : Nat) (K : Int) (w : World) (h : Rd w hi 3 A n (cProof (iotaProof K n))) (hn : n ≤ 1048576) (hK : 0 ≤ K) (hK2 : K ≤ 1000000000000) :
    Calls Try.prog 17 #[.slice A n c, .int .i64 K] w fun e w' => e = .returned (.int .i64 (K + 3 * n)) ∧ Still w w' := by
  have H := Lib.hid h
  clear h
  go_enter Try.func17, Try.ntmps17
  go_wp2
  go_loopw [1, 5] (fun kk i wr => ∃ k m : Nat, k ≤ n ∧ i = .int .i64 k ∧ kk = .int .i64 (K + 3 * k) ∧ wr = w.drewN m) (fun _ i _ => n - (intOf i).toNat)
  case atStart => exact ⟨0, 0, Nat.zero_le _, rfl, by go_num, rfl⟩
  case round =>
    obtain ⟨k, m, hk, rfl, rfl, rfl⟩ := hrel
    by_cases hlt : k < n
    · obtain ⟨a, x, y, z, rfl, hab, hcx, hcy, hcz, HP⟩ := H.out.ProofAt hlt
      have hp := HP.out
      rw [iotaProof_get K n k hlt] at hp
      injection hp with hp0 hq1
      injection hq1 with hp1 hp2
      subst hp0
      subst hp1
      subst hp2
      have i0 : (0 : Int) ≤ (k : Int) := by omega
      have i1 : (k : Int) < (n : Int) := by omega
      clear HP
      go_wp2
      repeat (go_quiet (fail); go_wp2)
      go_roundw
      case rel => exact ⟨k + 1, _, by omega, by go_num, by go_num, rfl⟩
      case measure => simp [intOf] <;> omega
    · have hkn : k = n := by omega
      have HR : Hid (K + 3 * (k : Int) = K + 3 * (n : Int)) := Lib.hid (by rw [hkn])
      clear hkn
      go_wp2
      go_ret
      exact ⟨ret_int HR.out, m, rfl⟩

/-! as whole values -/
def RdProofS (w : World) (hi : Nat) (v : Value) (d : List (Int × Int × Int)) : Prop := ∃ A n c, v = .slice A n c ∧ n ≤ 9223372036854775807 ∧ Rd w hi 3 A n (cProof d)
def OwProofS (w : World) (lo hi : Nat) (v : Value) (d : List (Int × Int × Int)) : Prop := d.length ≤ 1048576 ∧ ∃ A n c, v = .slice A n c ∧ Ow w lo hi 54 3 A n c (cProof d)
def szProofS (d : List (Int × Int × Int)) : Nat := d.length
def mkProofS (K : Int) (d : List (Int × Int × Int)) : List (Int × Int × Int) := iotaProof K d.length
section
variable {w w' : World} {lo hi lo' hi' B mid : Nat} {v : Value} {d : List (Int × Int × Int)}
theorem RdProofS.below (h : RdProofS w hi v d) (hb : Below hi w w') : RdProofS w' hi v d := by
  obtain ⟨A, n, c, rfl, hn, r⟩ := h; exact ⟨A, n, c, rfl, hn, r.below hb⟩
theorem RdProofS.more (h : RdProofS w hi v d) (hh : hi ≤ hi') : RdProofS w hi' v d := by
  obtain ⟨A, n, c, rfl, hn, r⟩ := h; exact ⟨A, n, c, rfl, hn, r.more hh⟩
theorem OwProofS.small (h : OwProofS w lo hi v d) : szProofS d ≤ 1048576 := h.1
theorem OwProofS.rd (h : OwProofS w lo hi v d) : RdProofS w hi v d := by
  obtain ⟨hs, A, n, c, rfl, r⟩ := h
  exact ⟨A, n, c, rfl, by have := r.Prooflen; omega, r.rd⟩
theorem OwProofS.below (h : OwProofS w lo hi v d) (hb : Below B w w') (hz : hi ≤ B) : OwProofS w' lo hi v d := by
  obtain ⟨hs, A, n, c, rfl, r⟩ := h; exact ⟨hs, A, n, c, rfl, r.below hb hz⟩
theorem OwProofS.kept (h : OwProofS w lo hi v d) (hk : Kept lo' mid w w') (hz : hi ≤ w.heap.size) (hd : mid ≤ lo ∨ hi ≤ lo') : OwProofS w' lo hi v d := by
  obtain ⟨hs, A, n, c, rfl, r⟩ := h; exact ⟨hs, A, n, c, rfl, r.kept hk hz hd⟩
theorem OwProofS.widen (h : OwProofS w lo hi v d) (h1 : lo' ≤ lo) (h2 : hi ≤ hi') : OwProofS w lo' hi' v d := by
  obtain ⟨hs, A, n, c, rfl, r⟩ := h; exact ⟨hs, A, n, c, rfl, r.widen h1 h2⟩
end
theorem OwProofS.nil_ (w : World) (lo hi : Nat) : OwProofS w lo hi (.slice none 0 0) [] := ⟨by simp, none, 0, 0, rfl, by simp [cProof], Nat.le_refl _, .inl rfl⟩
theorem RdProofS.nil_ (w : World) (hi : Nat) : RdProofS w hi (.slice none 0 0) [] := ⟨none, 0, 0, rfl, by omega, by simp [cProof], fun h => by omega⟩

theorem L_eqProofS (hi hi' : Nat) (v v' : Value) (d : List (Int × Int × Int)) (w : World) (h : RdProofS w hi v d) (h' : RdProofS w hi' v' d) (hh : hi ≤ w.heap.size) (hh' : hi' ≤ w.heap.size) (hs : szProofS d ≤ 1048576) :
    Calls Try.prog 13 #[v, v'] w fun e w' => e = .returned (.bool true) ∧ Below w.heap.size w w' := by
  obtain ⟨A, n, c, rfl, _, r⟩ := h
  obtain ⟨A', n', c', rfl, _, r'⟩ := h'
  have hl := r.Prooflen
  have hl' := r'.Prooflen
  obtain rfl : n' = n := by omega
  unfold szProofS at hs
  exact l_eqProofS A A' _ c c' d w (r.more hh) (r'.more hh') (by omega)

theorem L_markProofS (lo hi : Nat) (v : Value) (d : List (Int × Int × Int)) (K : Int) (w : World) (h : OwProofS w lo hi v d) (_hz : hi ≤ w.heap.size) (hK : 0 ≤ K) (hK2 : K ≤ 1000000000) :
    Calls Try.prog 16 #[v, .int .i64 K] w fun e w' => ∃ K', e = .returned (.int .i64 K') ∧ Hid (K' = K + 3 * szProofS d) ∧ 0 ≤ K' ∧ K' ≤ K + 3145728 ∧ OwProofS w' lo hi v (mkProofS K d) ∧ Kept lo hi w w' := by
  obtain ⟨hs, A, n, c, rfl, r⟩ := h
  have hl := r.Prooflen
  refine (l_markProofS A n c lo hi d K w r (by omega) hK (by omega)).mono fun e w' ⟨he, ho, hk⟩ => ?_
  refine ⟨_, he, Lib.hid (by unfold szProofS; omega), by omega, by omega, ⟨by rw [mkProofS, iotaProof_length]; exact hs, _, _, _, rfl, ?_⟩, hk⟩
  unfold mkProofS; rw [hl]; exact ho

theorem L_heldProofS (hi : Nat) (v : Value) (d : List (Int × Int × Int)) (K q : Int) (w : World) (h : RdProofS w hi v (mkProofS K d)) (_hz : hi ≤ w.heap.size) (hs : szProofS d ≤ 1048576) (hq : Hid (q = K)) (hK : 0 ≤ K) (hK2 : K ≤ 1000000000) :
    Calls Try.prog 17 #[v, .int .i64 q] w fun e w' => ∃ K', e = .returned (.int .i64 K') ∧ Hid (K' = K + 3 * szProofS d) ∧ 0 ≤ K' ∧ K' ≤ K + 3145728 ∧ Below w.heap.size w w' := by
  obtain ⟨A, n, c, rfl, _, r⟩ := h
  have hl := r.Prooflen
  rw [mkProofS, iotaProof_length] at hl
  unfold szProofS at hs
  obtain rfl : q = K := hq.out
  unfold mkProofS at r; rw [hl] at r
  refine (l_heldProofS A n c hi q w r (by omega) hK (by omega)).mono fun e w' ⟨he, hk⟩ => ?_
  exact ⟨_, he, Lib.hid (by unfold szProofS; omega), by omega, by omega, hk.below _⟩

end Go.Proofs.Ytdhakbpimbadgaa
