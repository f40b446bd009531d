/- Chapter 8 in the program: gatesOf. -/
import Derived.Test.YtlagkinamnjnhaaWalk8d
namespace Go.Proofs.Ytlagkinamnjnhaa
open Go.RowKit
set_option maxRecDepth 100000

theorem gate_step {d : List (Int × Int × Int)} {n k : Nat} (hz : d.length = n) (hk : k < n) : ((d.take k).map gI ++ List.replicate (n - k) Value.nilIface).set k (gI (gt d k)) = (d.take (k + 1)).map gI ++ List.replicate (n - (k + 1)) Value.nilIface := by
  have hl : ((d.take k).map gI).length = k := by simp; omega
  rw [List.set_append_right _ _ (by omega), hl, Nat.sub_self, show n - k = (n - (k + 1)) + 1 by omega, List.replicate_succ]
  have hk' : k < d.length := by omega
  rw [List.set_cons_zero, List.take_succ_eq_append_getElem hk', List.map_append, List.append_assoc]
  simp [gt, hk']

theorem inv_input (n : Nat) (v : Value) (W : World) : (method (n + 1) 94 v "loop.example/underveil/impl.fits").run Try.prog W = .ok (92, v) W := by kernel_rfl
theorem inv_const (n : Nat) (v : Value) (W : World) : (method (n + 1) 97 v "loop.example/underveil/impl.fits").run Try.prog W = .ok (94, v) W := by kernel_rfl
theorem inv_linear (n : Nat) (a b c : Value) (W : World) : (method (n + 1) 101 (.agg #[a, b, c]) "loop.example/underveil/impl.fits").run Try.prog W = .ok (95, .agg #[a, b]) W := by kernel_rfl
theorem inv_product (n : Nat) (a b : Value) (W : World) : (method (n + 1) 103 (.agg #[a, b]) "loop.example/underveil/impl.fits").run Try.prog W = .ok (95, .agg #[a, b]) W := by kernel_rfl
theorem inB_lt {a t : Int} : inB a 0 (t - 1) = (decide (0 ≤ a) && decide (a < t)) := by unfold inB; congr 1; exact decide_eq_decide.2 (by omega)
theorem gateKB_kind {g : Int × Int × Int} (h : gateKB g = true) : (g.1 = 0 ∧ g.2.2 = 0) ∨ (g.1 = 1 ∧ g.2.2 = 0) ∨ g.1 = 2 ∨ g.1 = 3 ∨ g.1 = 4 := by
  unfold gateKB at h
  split at h
  · have h2 : g.2.2 = 0 := by simpa using h
    rcases ‹g.1 = 0 ∨ g.1 = 1› with h1 | h1
    · exact .inl ⟨h1, h2⟩
    · exact .inr (.inl ⟨h1, h2⟩)
  · simp only [decide_eq_true_eq] at h; exact .inr (.inr h)
theorem gateKB_no {g : Int × Int × Int} {t m : Int} (h : gateKB g = false) : gateB g t m = false := by
  unfold gateKB at h
  unfold gateB
  split at h
  · have h2 : ¬ g.2.2 = 0 := by simpa using h
    rcases ‹g.1 = 0 ∨ g.1 = 1› with h1 | h1
    · rw [if_pos h1]; simp [h2]
    · rw [if_neg (by omega), if_pos h1]; simp [h2]
  · simp only [decide_eq_false_iff_not] at h
    rw [if_neg (by omega), if_neg (by omega), if_neg h]
set_option maxHeartbeats 8000000 in
theorem i_gatesOf (A1 : Option Addr) (n1 c1 : Nat) (A2 : Option Addr) (n2 c2 : Nat) (z : Int) (d1 : List (Int × Int × Int)) (d2 : List Int) (w : World) (h1 : Rd w w.heap.size 3 A1 n1 (cGate d1)) (h2 : Rd w w.heap.size 1 A2 n2 (cI d2)) (hn1 : n1 ≤ 1048576) (hn2 : n2 ≤ 1048576) :
    Calls Try.prog 31 #[.agg #[.int .i64 z, .slice A1 n1 c1, .slice A2 n2 c2]] w fun e w' => ∃ v, e = .returned (.tuple #[v, .bool (circB (z, d1, d2))]) ∧ Hid (circB (z, d1, d2) = false → v = .slice none 0 0) ∧ Hid (circB (z, d1, d2) = true → OwGI w' w.heap.size w'.heap.size v d1) ∧ Below w.heap.size w w' := by
  have hl1 : Hid (d1.length = n1) := Lib.hid h1.Gatelen
  have hl2 : Hid (d2.length = n2) := Lib.hid h2.len
  have H1 := Lib.hid h1
  have H2 := Lib.hid h2
  clear h1 h2
  have HX0 : Hid (Bx (w.alloc (.cells #[.int .i64 z, .slice A1 n1 c1, .slice A2 n2 c2] 32)) w.heap.size #[.int .i64 z, .slice A1 n1 c1, .slice A2 n2 c2] 32) := Lib.hid (Bx.new _ _ _)
  have HB0 : Hid (Below w.heap.size w (w.alloc (.cells #[.int .i64 z, .slice A1 n1 c1, .slice A2 n2 c2] 32))) := Lib.hid ((Below.refl _ _).alloc (Nat.le_refl _) _)
  have no : ∀ {w' : World}, circB (z, d1, d2) = false → Below w.heap.size w w' → ∃ v, Ending.returned (.tuple #[.slice none 0 0, .bool false]) = .returned (.tuple #[v, .bool (circB (z, d1, d2))]) ∧ Hid (circB (z, d1, d2) = false → v = .slice none 0 0) ∧ Hid (circB (z, d1, d2) = true → OwGI w' w.heap.size w'.heap.size v d1) ∧ Below w.heap.size w w' :=
    fun h hb => ⟨.slice none 0 0, by rw [h], Lib.hid fun _ => rfl, Lib.hid (fun h' => by rw [h] at h'; cases h'), hb⟩
  by_cases e1 : 1 ≤ z ∧ z ≤ 6
  rotate_left
  · have HF := Lib.hid (circB_no1 (d1 := d1) (d2 := d2) (inB_f e1))
    by_cases e11 : z < 1
    all_goals
      have e12 : z < 1 ∨ 6 < z := by omega
      go_enter Try.func31, Try.ntmps31
      go_wp2
      go_ret2
      exact no HF.out HB0.out
  obtain ⟨a1, a2⟩ := e1
  by_cases e2 : 1 ≤ n1 ∧ n1 ≤ 16
  rotate_left
  · have HF := Lib.hid (circB_no2 (z := z) (d1 := d1) (d2 := d2) (by rw [hl1.out]; exact inB_f (by omega)))
    by_cases e11 : (n1 : Int) < 1
    all_goals
      have e12 : (n1 : Int) < 1 ∨ (16 : Int) < n1 := by omega
      go_enter Try.func31, Try.ntmps31
      go_wp2
      go_ret2
      exact no HF.out HB0.out
  obtain ⟨a3, a4⟩ := e2
  have a5 : (1 : Int) ≤ (n1 : Int) := by omega
  have a6 : (n1 : Int) ≤ 16 := by omega
  have hmk := fun W => run_make1 (P := Try.prog) Try.underlying58 info_gate rfl n1 (by omega) (by omega) W
  go_enter Try.func31, Try.ntmps31
  go_wp2_with fail
  refine (i_outsOk A1 n1 c1 A2 n2 c2 z d2 _ (H2.out.below HB0.out |>.more (by simp)) hn1 hn2).mono ?_
  rintro e w2 ⟨rfl, hb⟩
  have HX1 := Lib.hid (HX0.out.below hb HX0.out.lt)
  have HB1 : Hid (Below w.heap.size w w2) := Lib.hid (HB0.out.trans (hb.mono HB0.out.size))
  have hz0 := HX1.out.lt
  clear HX0 HB0 hb
  cases e3 : (outsK d2 n1 n2 && inB n2 1 16)
  · have HF : Hid (circB (z, d1, d2) = false) := Lib.hid (by
      rw [Bool.and_eq_false_iff] at e3
      rcases e3 with e | e
      · exact circB_no5 (by rw [hl1.out, hl2.out]; exact e)
      · exact circB_no3 (by rw [hl2.out]; exact e))
    go_wp2
    go_ret2
    exact no HF.out HB1.out
  have E3 := Lib.hid e3
  clear e3
  have b1 : w2.cell? ⟨w.heap.size, 1, none⟩ = some (.slice A1 n1 c1) := HX1.out.cell 1
  have HO0 : Hid (Ow (w2.alloc (.cells (Array.replicate n1 .nilIface) 62)) w2.heap.size (w2.heap.size + 1) 62 1 (some ⟨w2.heap.size, 0, none⟩) n1 n1 ((d1.take 0).map gI ++ List.replicate (n1 - 0) .nilIface)) := Lib.hid (by exact Ow.zeros w2 .nilIface 62 n1)
  have HX2 := Lib.hid (HX1.out.alloc (.cells (Array.replicate n1 .nilIface) 62))
  have HB2 := Lib.hid (HB1.out.alloc (by omega) (.cells (Array.replicate n1 .nilIface) 62))
  have b2 : (w2.alloc (.cells (Array.replicate n1 .nilIface) 62)).cell? ⟨w.heap.size, 1, none⟩ = some (.slice A1 n1 c1) := HX2.out.cell 1
  go_wp2
  go_loopw [41] (fun i wr => ∃ k : Nat, k ≤ n1 ∧ i = .int .i64 k ∧ Hid (gatesK d1 z k = true) ∧ Hid (Ow wr w2.heap.size (w2.heap.size + 1) 62 1 (some ⟨w2.heap.size, 0, none⟩) n1 n1 ((d1.take k).map gI ++ List.replicate (n1 - k) .nilIface)) ∧ Hid (Bx wr w.heap.size #[.int .i64 z, .slice A1 n1 c1, .slice A2 n2 c2] 32) ∧ Hid (Below w.heap.size w wr)) (fun i _ => n1 - (intOf i).toNat)
  case atStart => exact ⟨0, Nat.zero_le _, by rw [Int.natCast_zero], Lib.hid rfl, HO0, HX2, HB2⟩
  case round =>
    clear HO0 HX2 HB2 b2 b1 HX1 HB1
    obtain ⟨k, hk, rfl, HI, HO, HX, HB⟩ := hrel
    by_cases hlt : k < n1
    · obtain ⟨a, x, y, u, hA, hab, hx0, hy0, hu0, HP⟩ := H1.out.GateAt hlt
      have hx := (HB.out.cell (p := a.add (k * 3)) (by rw [add_block]; exact hab)).trans hx0
      have hy := (HB.out.cell (p := ⟨(a.add (k * 3)).block, (a.add (k * 3)).off + 1, none⟩) (by rw [add_block]; exact hab)).trans hy0
      have hu := (HB.out.cell (p := ⟨(a.add (k * 3)).block, (a.add (k * 3)).off + 2, none⟩) (by rw [add_block]; exact hab)).trans hu0
      have i0 : (0 : Int) ≤ (k : Int) := by omega
      have i1 : (k : Int) < (n1 : Int) := by omega
      have HG : Hid (gt d1 k = (x, y, u)) := Lib.hid HP.out
      clear hx0 hy0 hu0 HP
      subst hA
      go_wp2_with fail
      refine (i_gateOf _ _ _ _).mono ?_
      rintro e w3 ⟨rfl, hb⟩
      have hsz : w2.heap.size < wr.heap.size := by
        obtain ⟨g, cs, hA, _, _, hgb, _⟩ := HO.out.lt (by omega)
        injection hA with hA; injection hA with hA; subst hA
        exact (Array.getElem?_eq_some_iff.1 hgb).1
      have hbs : Below wr.heap.size wr w3 := ((Below.refl _ wr).alloc (Nat.le_refl _) _).trans (hb.mono (by simp))
      have HB3 : Hid (Below w.heap.size w w3) := Lib.hid (HB.out.trans (hbs.mono HB.out.size))
      have HX3 := Lib.hid (HX.out.below hbs HX.out.lt)
      have HO3 := Lib.hid (HO.out.below hbs hsz)
      have hz3 := hbs.size
      clear hbs
      clear hx hy hu hb HO HX HB
      cases ek : gateKB (x, y, u)
      · have HF : Hid (circB (z, d1, d2) = false) := Lib.hid (circB_no4 (gatesK_bad (k := k) (by rw [gatesK, HG.out, gateKB_no ek, Bool.and_false]) (by have := hl1.out; omega)))
        go_wp2
        go_ret2
        exact no HF.out HB3.out
      · rcases gateKB_kind ek with ⟨rfl, rfl⟩ | ⟨rfl, rfl⟩ | rfl | rfl | rfl
        · have c0 : w3.cell? ⟨w.heap.size, 0, none⟩ = some (.int .i64 z) := HX3.out.cell 0
          have HV : Hid (gI (gt d1 k) = .iface 94 (.agg #[.int .i64 y])) := Lib.hid (by rw [HG.out]; simp [gI])
          have HE : Hid (gateB (gt d1 k) k z = (decide (0 ≤ y) && decide (y < z))) := Lib.hid (by rw [HG.out]; simp [gateB, inB_lt])
          simp only [gI]
          go_wp2_with fail
          rw [inv_input]
          go_wp2_with fail
          refine (i_fits_input y z k _).mono ?_
          rintro e w4 ⟨rfl, hb⟩
          have HB4 : Hid (Below w.heap.size w w4) := Lib.hid (HB3.out.trans (hb.mono HB3.out.size))
          have HX4 := Lib.hid (HX3.out.below hb HX3.out.lt)
          have HO4 := Lib.hid (HO3.out.below hb (by omega))
          clear hb c0 HB3 HX3 HO3
          cases eg : (decide (0 ≤ y) && decide (y < z))
          · have HF : Hid (circB (z, d1, d2) = false) := Lib.hid (circB_no4 (gatesK_bad (k := k) (by rw [gatesK, HE.out, eg, Bool.and_false]) (by have := hl1.out; omega)))
            go_wp2
            go_ret2
            exact no HF.out HB4.out
          · have HI2 : Hid (gatesK d1 z (k + 1) = true) := Lib.hid (by rw [gatesK, HI.out, HE.out, eg]; rfl)
            obtain ⟨v0, hv0⟩ : ∃ v, w4.cell? ⟨w2.heap.size, k, none⟩ = some v := ⟨_, HO4.out.cellAt (List.getElem?_eq_getElem (by have := HO4.out.1; omega))⟩
            have hf0 := HO4.out.free (by omega) k
            have HO5 := Lib.hid (HO4.out.set k (.iface 94 (.agg #[.int .i64 y])))
            rw [← HV.out, gate_step hl1.out hlt, HV.out] at HO5
            have HX5 := Lib.hid (HX4.out.other ⟨w2.heap.size, k, none⟩ (.iface 94 (.agg #[.int .i64 y])) (by simp; omega))
            have HB5 := Lib.hid (HB4.out.setCell (p := ⟨w2.heap.size, k, none⟩) (by simp; omega) (.iface 94 (.agg #[.int .i64 y])))
            clear HO4 HX4 HB4 HI
            go_wp2
            go_roundw
            case rel => exact ⟨k + 1, by omega, by go_num, HI2, HO5, HX5, HB5⟩
            case measure => simp [intOf] <;> omega
        · have c0 : w3.cell? ⟨w.heap.size, 0, none⟩ = some (.int .i64 z) := HX3.out.cell 0
          have HV : Hid (gI (gt d1 k) = .iface 97 (.agg #[.int .i64 y])) := Lib.hid (by rw [HG.out]; simp [gI])
          have HE : Hid (gateB (gt d1 k) k z = (numB y)) := Lib.hid (by rw [HG.out]; simp [gateB])
          simp only [gI]
          go_wp2_with fail
          rw [inv_const]
          go_wp2_with fail
          refine (i_fits_const y z k _).mono ?_
          rintro e w4 ⟨rfl, hb⟩
          have HB4 : Hid (Below w.heap.size w w4) := Lib.hid (HB3.out.trans (hb.mono HB3.out.size))
          have HX4 := Lib.hid (HX3.out.below hb HX3.out.lt)
          have HO4 := Lib.hid (HO3.out.below hb (by omega))
          clear hb c0 HB3 HX3 HO3
          cases eg : (numB y)
          · have HF : Hid (circB (z, d1, d2) = false) := Lib.hid (circB_no4 (gatesK_bad (k := k) (by rw [gatesK, HE.out, eg, Bool.and_false]) (by have := hl1.out; omega)))
            go_wp2
            go_ret2
            exact no HF.out HB4.out
          · have HI2 : Hid (gatesK d1 z (k + 1) = true) := Lib.hid (by rw [gatesK, HI.out, HE.out, eg]; rfl)
            obtain ⟨v0, hv0⟩ : ∃ v, w4.cell? ⟨w2.heap.size, k, none⟩ = some v := ⟨_, HO4.out.cellAt (List.getElem?_eq_getElem (by have := HO4.out.1; omega))⟩
            have hf0 := HO4.out.free (by omega) k
            have HO5 := Lib.hid (HO4.out.set k (.iface 97 (.agg #[.int .i64 y])))
            rw [← HV.out, gate_step hl1.out hlt, HV.out] at HO5
            have HX5 := Lib.hid (HX4.out.other ⟨w2.heap.size, k, none⟩ (.iface 97 (.agg #[.int .i64 y])) (by simp; omega))
            have HB5 := Lib.hid (HB4.out.setCell (p := ⟨w2.heap.size, k, none⟩) (by simp; omega) (.iface 97 (.agg #[.int .i64 y])))
            clear HO4 HX4 HB4 HI
            go_wp2
            go_roundw
            case rel => exact ⟨k + 1, by omega, by go_num, HI2, HO5, HX5, HB5⟩
            case measure => simp [intOf] <;> omega
        · have c0 : w3.cell? ⟨w.heap.size, 0, none⟩ = some (.int .i64 z) := HX3.out.cell 0
          have HV : Hid (gI (gt d1 k) = .iface 101 (.agg #[.int .i64 y, .int .i64 u, .int .i64 1])) := Lib.hid (by rw [HG.out]; simp [gI])
          have HE : Hid (gateB (gt d1 k) k z = ((decide (0 ≤ y) && decide (y < k)) && (decide (0 ≤ u) && decide (u < k)))) := Lib.hid (by rw [HG.out]; simp [gateB, inB_lt])
          simp only [gI]
          go_wp2_with fail
          rw [inv_linear]
          go_wp2_with fail
          refine (i_fits_two y u z k _).mono ?_
          rintro e w4 ⟨rfl, hb⟩
          have HB4 : Hid (Below w.heap.size w w4) := Lib.hid (HB3.out.trans (hb.mono HB3.out.size))
          have HX4 := Lib.hid (HX3.out.below hb HX3.out.lt)
          have HO4 := Lib.hid (HO3.out.below hb (by omega))
          clear hb c0 HB3 HX3 HO3
          cases eg : ((decide (0 ≤ y) && decide (y < k)) && (decide (0 ≤ u) && decide (u < k)))
          · have HF : Hid (circB (z, d1, d2) = false) := Lib.hid (circB_no4 (gatesK_bad (k := k) (by rw [gatesK, HE.out, eg, Bool.and_false]) (by have := hl1.out; omega)))
            go_wp2
            go_ret2
            exact no HF.out HB4.out
          · have HI2 : Hid (gatesK d1 z (k + 1) = true) := Lib.hid (by rw [gatesK, HI.out, HE.out, eg]; rfl)
            obtain ⟨v0, hv0⟩ : ∃ v, w4.cell? ⟨w2.heap.size, k, none⟩ = some v := ⟨_, HO4.out.cellAt (List.getElem?_eq_getElem (by have := HO4.out.1; omega))⟩
            have hf0 := HO4.out.free (by omega) k
            have HO5 := Lib.hid (HO4.out.set k (.iface 101 (.agg #[.int .i64 y, .int .i64 u, .int .i64 1])))
            rw [← HV.out, gate_step hl1.out hlt, HV.out] at HO5
            have HX5 := Lib.hid (HX4.out.other ⟨w2.heap.size, k, none⟩ (.iface 101 (.agg #[.int .i64 y, .int .i64 u, .int .i64 1])) (by simp; omega))
            have HB5 := Lib.hid (HB4.out.setCell (p := ⟨w2.heap.size, k, none⟩) (by simp; omega) (.iface 101 (.agg #[.int .i64 y, .int .i64 u, .int .i64 1])))
            clear HO4 HX4 HB4 HI
            go_wp2
            go_roundw
            case rel => exact ⟨k + 1, by omega, by go_num, HI2, HO5, HX5, HB5⟩
            case measure => simp [intOf] <;> omega
        · have c0 : w3.cell? ⟨w.heap.size, 0, none⟩ = some (.int .i64 z) := HX3.out.cell 0
          have HV : Hid (gI (gt d1 k) = .iface 101 (.agg #[.int .i64 y, .int .i64 u, .int .i64 112])) := Lib.hid (by rw [HG.out]; simp [gI])
          have HE : Hid (gateB (gt d1 k) k z = ((decide (0 ≤ y) && decide (y < k)) && (decide (0 ≤ u) && decide (u < k)))) := Lib.hid (by rw [HG.out]; simp [gateB, inB_lt])
          simp only [gI]
          go_wp2_with fail
          rw [inv_linear]
          go_wp2_with fail
          refine (i_fits_two y u z k _).mono ?_
          rintro e w4 ⟨rfl, hb⟩
          have HB4 : Hid (Below w.heap.size w w4) := Lib.hid (HB3.out.trans (hb.mono HB3.out.size))
          have HX4 := Lib.hid (HX3.out.below hb HX3.out.lt)
          have HO4 := Lib.hid (HO3.out.below hb (by omega))
          clear hb c0 HB3 HX3 HO3
          cases eg : ((decide (0 ≤ y) && decide (y < k)) && (decide (0 ≤ u) && decide (u < k)))
          · have HF : Hid (circB (z, d1, d2) = false) := Lib.hid (circB_no4 (gatesK_bad (k := k) (by rw [gatesK, HE.out, eg, Bool.and_false]) (by have := hl1.out; omega)))
            go_wp2
            go_ret2
            exact no HF.out HB4.out
          · have HI2 : Hid (gatesK d1 z (k + 1) = true) := Lib.hid (by rw [gatesK, HI.out, HE.out, eg]; rfl)
            obtain ⟨v0, hv0⟩ : ∃ v, w4.cell? ⟨w2.heap.size, k, none⟩ = some v := ⟨_, HO4.out.cellAt (List.getElem?_eq_getElem (by have := HO4.out.1; omega))⟩
            have hf0 := HO4.out.free (by omega) k
            have HO5 := Lib.hid (HO4.out.set k (.iface 101 (.agg #[.int .i64 y, .int .i64 u, .int .i64 112])))
            rw [← HV.out, gate_step hl1.out hlt, HV.out] at HO5
            have HX5 := Lib.hid (HX4.out.other ⟨w2.heap.size, k, none⟩ (.iface 101 (.agg #[.int .i64 y, .int .i64 u, .int .i64 112])) (by simp; omega))
            have HB5 := Lib.hid (HB4.out.setCell (p := ⟨w2.heap.size, k, none⟩) (by simp; omega) (.iface 101 (.agg #[.int .i64 y, .int .i64 u, .int .i64 112])))
            clear HO4 HX4 HB4 HI
            go_wp2
            go_roundw
            case rel => exact ⟨k + 1, by omega, by go_num, HI2, HO5, HX5, HB5⟩
            case measure => simp [intOf] <;> omega
        · have c0 : w3.cell? ⟨w.heap.size, 0, none⟩ = some (.int .i64 z) := HX3.out.cell 0
          have HV : Hid (gI (gt d1 k) = .iface 103 (.agg #[.int .i64 y, .int .i64 u])) := Lib.hid (by rw [HG.out]; simp [gI])
          have HE : Hid (gateB (gt d1 k) k z = ((decide (0 ≤ y) && decide (y < k)) && (decide (0 ≤ u) && decide (u < k)))) := Lib.hid (by rw [HG.out]; simp [gateB, inB_lt])
          simp only [gI]
          go_wp2_with fail
          rw [inv_product]
          go_wp2_with fail
          refine (i_fits_two y u z k _).mono ?_
          rintro e w4 ⟨rfl, hb⟩
          have HB4 : Hid (Below w.heap.size w w4) := Lib.hid (HB3.out.trans (hb.mono HB3.out.size))
          have HX4 := Lib.hid (HX3.out.below hb HX3.out.lt)
          have HO4 := Lib.hid (HO3.out.below hb (by omega))
          clear hb c0 HB3 HX3 HO3
          cases eg : ((decide (0 ≤ y) && decide (y < k)) && (decide (0 ≤ u) && decide (u < k)))
          · have HF : Hid (circB (z, d1, d2) = false) := Lib.hid (circB_no4 (gatesK_bad (k := k) (by rw [gatesK, HE.out, eg, Bool.and_false]) (by have := hl1.out; omega)))
            go_wp2
            go_ret2
            exact no HF.out HB4.out
          · have HI2 : Hid (gatesK d1 z (k + 1) = true) := Lib.hid (by rw [gatesK, HI.out, HE.out, eg]; rfl)
            obtain ⟨v0, hv0⟩ : ∃ v, w4.cell? ⟨w2.heap.size, k, none⟩ = some v := ⟨_, HO4.out.cellAt (List.getElem?_eq_getElem (by have := HO4.out.1; omega))⟩
            have hf0 := HO4.out.free (by omega) k
            have HO5 := Lib.hid (HO4.out.set k (.iface 103 (.agg #[.int .i64 y, .int .i64 u])))
            rw [← HV.out, gate_step hl1.out hlt, HV.out] at HO5
            have HX5 := Lib.hid (HX4.out.other ⟨w2.heap.size, k, none⟩ (.iface 103 (.agg #[.int .i64 y, .int .i64 u])) (by simp; omega))
            have HB5 := Lib.hid (HB4.out.setCell (p := ⟨w2.heap.size, k, none⟩) (by simp; omega) (.iface 103 (.agg #[.int .i64 y, .int .i64 u])))
            clear HO4 HX4 HB4 HI
            go_wp2
            go_roundw
            case rel => exact ⟨k + 1, by omega, by go_num, HI2, HO5, HX5, HB5⟩
            case measure => simp [intOf] <;> omega
    · have hkn : k = n1 := by omega
      have hz5 : w2.heap.size < wr.heap.size := by
        obtain ⟨g, cs, hA, _, _, hgb, _⟩ := HO.out.lt (by omega)
        injection hA with hA; injection hA with hA; subst hA
        exact (Array.getElem?_eq_some_iff.1 hgb).1
      have HT : Hid (circB (z, d1, d2) = true) := Lib.hid (by
        have e := E3.out
        rw [Bool.and_eq_true] at e
        exact circB_yes (inB_t ⟨a1, a2⟩) (by rw [hl1.out]; exact inB_t ⟨by omega, by omega⟩) (by rw [hl2.out]; exact e.2) (by rw [hl1.out, ← hkn]; exact HI.out) (by rw [hl1.out, hl2.out]; exact e.1))
      have HOF : Hid (OwGI wr w.heap.size wr.heap.size (.slice (some ⟨w2.heap.size, 0, none⟩) n1 n1) d1) := Lib.hid (by
        have := HO.out
        rw [hkn, List.take_of_length_le (by have := hl1.out; omega), Nat.sub_self, List.replicate_zero, List.append_nil] at this
        exact ⟨_, _, _, rfl, this.widen (by omega) (by omega)⟩)
      clear HO hkn HI
      go_wp2
      go_ret2
      exact ⟨.slice (some ⟨w2.heap.size, 0, none⟩) n1 n1, by rw [HT.out]; rfl, Lib.hid (fun h => by rw [HT.out] at h; cases h), Lib.hid (fun _ => HOF.out), HB.out⟩
end Go.Proofs.Ytlagkinamnjnhaa
