/- Chapter 3 in the program: what is read off the reduced equations. -/
import Derived.Test.YtbnobkojkfmccaaWalk4d
namespace Go.Proofs.Ytbnobkojkfmccaa
open Go.RowKit
set_option maxRecDepth 100000

/-- the solution after i rows, from rows of nine -/
def solP (P : List (List Int)) (T : List Int) (m : Nat) : Nat → List Int
  | 0 => List.replicate m 0
  | i + 1 => (solP P T m i).set (T.getD i 0).toNat ((P.getD i []).getD 8 0)
theorem solP_length (P : List (List Int)) (T : List Int) (m i : Nat) : (solP P T m i).length = m := by
  induction i with
  | zero => simp [solP]
  | succ i ih => rw [solP, List.length_set, ih]
theorem solP_is {D : List (List Int)} {T : List Int} {m n : Nat} (hm : m ≤ 8) (hl : D.length = n) (hT : T.length ≤ n) : solP (D.map (E9 m)) T m T.length = solK D T m n := by
  have h1 : ∀ i, i ≤ T.length → solP (D.map (E9 m)) T m i = solK D T m i := by
    intro i
    induction i with
    | zero => intro _; rfl
    | succ i ih =>
      intro hi
      rw [solP, solK, if_pos (by omega), ih (by omega), map_getD _ _ i [] [] (by omega), E9_8 hm]
  have h2 : ∀ j, solK D T m (T.length + j) = solK D T m T.length := by
    intro j
    induction j with
    | zero => rfl
    | succ j ih => rw [show T.length + (j + 1) = (T.length + j) + 1 by omega, solK, if_neg (by omega), ih]
  rw [h1 _ (Nat.le_refl _), ← h2 (n - T.length), show T.length + (n - T.length) = n by omega]
/-- with a 1 in one column that is not taken -/
def zerP (P : List (List Int)) (T : List Int) (m c : Nat) : Nat → List Int
  | 0 => (List.replicate m 0).set c 1
  | i + 1 => (zerP P T m c i).set (T.getD i 0).toNat (-((P.getD i []).getD c 0) % 113)
theorem zerP_length (P : List (List Int)) (T : List Int) (m c i : Nat) : (zerP P T m c i).length = m := by
  induction i with
  | zero => simp [zerP]
  | succ i ih => rw [zerP, List.length_set, ih]
/-- the same from the matrix -/
def kerX (D : List (List Int)) (T : List Int) (m c : Nat) : Nat → List Int
  | 0 => (List.replicate m 0).set c 1
  | i + 1 => (kerX D T m c i).set (T.getD i 0).toNat (-((D.getD i []).getD c 0) % 113)
theorem kerX_length (D : List (List Int)) (T : List Int) (m c i : Nat) : (kerX D T m c i).length = m := by
  induction i with
  | zero => simp [kerX]
  | succ i ih => rw [kerX, List.length_set, ih]
theorem zerP_is {D : List (List Int)} {T : List Int} {m n c : Nat} (hm : m ≤ 8) (hc : c < m) (hl : D.length = n) (hT : T.length ≤ n) : zerP (D.map (E9 m)) T m c T.length = kerX D T m c T.length := by
  have h1 : ∀ i, i ≤ T.length → zerP (D.map (E9 m)) T m c i = kerX D T m c i := by
    intro i
    induction i with
    | zero => intro _; rfl
    | succ i ih =>
      intro hi
      rw [zerP, kerX, ih (by omega), map_getD _ _ i [] [] (by omega), E9_lt hm hc]
  exact h1 _ (Nat.le_refl _)
theorem solB_iff (D : List (List Int)) (k m n : Nat) : solB D k m n = true ↔ ∀ i, i < n → k ≤ i → (D.getD i []).getD m 0 = 0 := by
  induction n with
  | zero => simp [solB]
  | succ n ih =>
    rw [solB, Bool.and_eq_true, ih, Bool.or_eq_true, decide_eq_true_eq, beq_iff_eq]
    constructor
    · intro ⟨h1, h2⟩ i hi hk
      by_cases e : i = n
      · subst e; rcases h2 with h2 | h2
        · omega
        · exact h2
      · exact h1 i (by omega) hk
    · intro h
      exact ⟨fun i hi hk => h i (by omega) hk, by
        by_cases e : n < k
        · exact .inl e
        · exact .inr (h n (by omega) (by omega))⟩

set_option maxHeartbeats 1000000 in
theorem i_solution (g0 n kt ct kd cd m : Nat) (At Ad : Option Addr) (P : List (List Int)) (T : List Int) (w : World) (hO : Ow w g0 (g0 + 1) 110 9 (some ⟨g0, 0, none⟩) n n (cR P)) (hW : W9 P) (hT : Rd w w.heap.size 1 At kt (cI T))
    (hb : ∀ i, i < kt → 0 ≤ T.getD i 0 ∧ T.getD i 0 < (m : Int)) (hm : kt + kd = m) (m8 : m ≤ 8) (hk : kt ≤ n) (hg : g0 < w.heap.size) (n8 : n ≤ 8) :
    Calls Try.prog 57 #[.agg #[.slice (some ⟨g0, 0, none⟩) n n, .slice At kt ct, .slice Ad kd cd]] w fun e w' => ∃ v, e = .returned v ∧ OwIntS w' w.heap.size w'.heap.size v (solP P T m kt) ∧ Below w.heap.size w w' := by
  have HT := Lib.hid hT
  have HBD := Lib.hid hb
  have HW := Lib.hid hW
  have HPN : Hid (P.length = n) := Lib.hid (hO.rowN hW)
  have hmk : ∀ W, (Instr.makeSlice 27 (.int .i64 ((kt : Int) + (kd : Int))) (.int .i64 ((kt : Int) + (kd : Int)))).run Try.prog W = .ok (.slice (some ⟨W.heap.size, 0, none⟩) m m) (W.alloc (.cells (Array.replicate m (.int .i64 0)) 3)) := fun W => by
    have := run_make1 (P := Try.prog) Try.underlying27 info_int rfl m (by omega) (by omega) W
    rwa [show ((m : Nat) : Int) = (kt : Int) + (kd : Int) by omega] at this
  have HO := Lib.hid hO
  have HB0 : Hid (Below w.heap.size w ((w.alloc (.cells #[.slice (some ⟨g0, 0, none⟩) n n, .slice At kt ct, .slice Ad kd cd] 71)).alloc (.cells (Array.replicate m (.int .i64 0)) 3))) := Lib.hid (((Below.refl _ _).alloc (Nat.le_refl _) _).alloc (by simp) _)
  have HX0 : Hid (Ow ((w.alloc (.cells #[.slice (some ⟨g0, 0, none⟩) n n, .slice At kt ct, .slice Ad kd cd] 71)).alloc (.cells (Array.replicate m (.int .i64 0)) 3)) (w.heap.size + 1) (w.heap.size + 1 + 1) 3 1 (some ⟨w.heap.size + 1, 0, none⟩) m m (cI (solP P T m 0))) := Lib.hid (by
    have := Ow.zeros (w.alloc (.cells #[.slice (some ⟨g0, 0, none⟩) n n, .slice At kt ct, .slice Ad kd cd] 71)) (.int .i64 0) 3 m
    rw [cI_zeros, World.size_alloc] at this; exact this)
  have HS0 : Hid (((w.alloc (.cells #[.slice (some ⟨g0, 0, none⟩) n n, .slice At kt ct, .slice Ad kd cd] 71)).alloc (.cells (Array.replicate m (.int .i64 0)) 3)).heap[w.heap.size]? = some (.cells #[.slice (some ⟨g0, 0, none⟩) n n, .slice At kt ct, .slice Ad kd cd] 71 (0, 0))) := Lib.hid (by
    rw [Below.heap_alloc _ _ _ (by simp)]; exact heap_alloc_new _ _)
  clear hT hb hW hO
  go_enter Try.func57, Try.ntmps57
  go_wp2
  clear hmk
  go_loopw [17] (fun i wr => ∃ k : Nat, k ≤ kt ∧ i = .int .i64 k ∧ Hid (Ow wr (w.heap.size + 1) (w.heap.size + 1 + 1) 3 1 (some ⟨w.heap.size + 1, 0, none⟩) m m (cI (solP P T m k))) ∧ Hid (Below w.heap.size w wr) ∧ Hid (wr.heap[w.heap.size]? = some (.cells #[.slice (some ⟨g0, 0, none⟩) n n, .slice At kt ct, .slice Ad kd cd] 71 (0, 0))) ∧ Hid (w.heap.size + 1 + 1 ≤ wr.heap.size)) (fun i _ => kt - (intOf i).toNat)
  case atStart => exact ⟨0, Nat.zero_le _, rfl, HX0, HB0, HS0, Lib.hid (by simp)⟩
  case round =>
    clear HX0 HB0 HS0
    obtain ⟨k, hkk, rfl, HX, HB, HS, HZ⟩ := hrel
    by_cases hlt : k < kt
    · obtain ⟨a, q, rfl, hab, hcq0, HQ⟩ := HT.out.intAt hlt
      have hbq := HBD.out k hlt
      rw [← HQ.out] at hbq
      obtain ⟨j, rfl⟩ := Int.eq_ofNat_of_zero_le hbq.1
      have hjm : j < m := by omega
      have hcq := (HB.out.cell (p := a.add k) (by rw [add_block]; exact hab)).trans hcq0
      obtain ⟨z, hcz0, HZQ⟩ := HO.out.atR HW.out (k := k) (by have := HPN.out; omega) (show 8 < 9 by omega)
      have hcz := (HB.out.cell (p := ⟨g0, k * 9 + 8, none⟩) hg).trans hcz0
      have hs0 : wr.cell? ⟨w.heap.size, 0, none⟩ = some (.slice (some ⟨g0, 0, none⟩) n n) := block_cell HS.out rfl
      obtain ⟨y, hcy, _⟩ := HX.out.intAt hjm
      have hf := HX.out.free (by omega) j
      have HX2 : Hid (Ow (wr.setCell ⟨w.heap.size + 1, j, none⟩ (.int .i64 z)) (w.heap.size + 1) (w.heap.size + 1 + 1) 3 1 (some ⟨w.heap.size + 1, 0, none⟩) m m (cI (solP P T m (k + 1)))) := Lib.hid (by
        have := HX.out.set j (.int .i64 z)
        rw [cI_set] at this
        rw [solP, ← HQ.out, ← HZQ.out, show ((j : Int)).toNat = j by omega]; exact this)
      have kset : Kept (w.heap.size + 1) (w.heap.size + 1 + 1) wr (wr.setCell ⟨w.heap.size + 1, j, none⟩ (.int .i64 z)) := (Kept.refl _ _ _).setCell (p := ⟨w.heap.size + 1, j, none⟩) (Nat.le_refl _) (Nat.lt_succ_self _) _
      have HB2 := Lib.hid (HB.out.setCell (p := ⟨w.heap.size + 1, j, none⟩) (by dsimp only; omega) (.int .i64 z))
      have HS2 := Lib.hid ((KeptS.of_kept (S := fun q => q = w.heap.size + 1) kset rfl).heap HS.out (by omega))
      have HZ2 : Hid (w.heap.size + 1 + 1 ≤ (wr.setCell ⟨w.heap.size + 1, j, none⟩ (.int .i64 z)).heap.size) := Lib.hid (by rw [World.size_setCell]; exact HZ.out)
      clear HX HB HS HZ hcq0 hcz0 hbq kset HQ HZQ
      have i0 : (0 : Int) ≤ (k : Int) := by omega
      have i1 : (k : Int) < (kt : Int) := by omega
      have i2 : (k : Int) < (n : Int) := by omega
      have i3 : (0 : Int) ≤ (j : Int) := by omega
      have i4 : (j : Int) < (m : Int) := by omega
      go_wp2
      go_roundw
      case rel => exact ⟨k + 1, by omega, by go_num, HX2, HB2, HS2, HZ2⟩
      case measure => simp [intOf] <;> omega
    · obtain rfl : k = kt := by omega
      go_wp2
      go_ret
      refine ⟨_, rfl, ?_, HB.out⟩
      have := HX.out.len
      exact ⟨by omega, _, _, _, rfl, HX.out.widen (by omega) HZ.out⟩
set_option maxHeartbeats 1000000 in
theorem i_zeroWith (g0 n kt ct kd cd m c : Nat) (At Ad : Option Addr) (P : List (List Int)) (T : List Int) (w : World) (hO : Ow w g0 (g0 + 1) 110 9 (some ⟨g0, 0, none⟩) n n (cR P)) (hW : W9 P) (hT : Rd w w.heap.size 1 At kt (cI T))
    (hb : ∀ i, i < kt → 0 ≤ T.getD i 0 ∧ T.getD i 0 < (m : Int)) (hm : kt + kd = m) (m8 : m ≤ 8) (hk : kt ≤ n) (hg : g0 < w.heap.size) (n8 : n ≤ 8) (hc : c < m) (hN : N9 P) :
    Calls Try.prog 60 #[.agg #[.slice (some ⟨g0, 0, none⟩) n n, .slice At kt ct, .slice Ad kd cd], .int .i64 c] w fun e w' => ∃ v, e = .returned v ∧ OwIntS w' w.heap.size w'.heap.size v (zerP P T m c kt) ∧ Below w.heap.size w w' := by
  have HT := Lib.hid hT
  have HN := Lib.hid hN
  have HBD := Lib.hid hb
  have HW := Lib.hid hW
  have HPN : Hid (P.length = n) := Lib.hid (hO.rowN hW)
  have hmk : ∀ W, (Instr.makeSlice 27 (.int .i64 ((kt : Int) + (kd : Int))) (.int .i64 ((kt : Int) + (kd : Int)))).run Try.prog W = .ok (.slice (some ⟨W.heap.size, 0, none⟩) m m) (W.alloc (.cells (Array.replicate m (.int .i64 0)) 3)) := fun W => by
    have := run_make1 (P := Try.prog) Try.underlying27 info_int rfl m (by omega) (by omega) W
    rwa [show ((m : Nat) : Int) = (kt : Int) + (kd : Int) by omega] at this
  have HO := Lib.hid hO
  have HB0 : Hid (Below w.heap.size w ((w.alloc (.cells #[.slice (some ⟨g0, 0, none⟩) n n, .slice At kt ct, .slice Ad kd cd] 71)).alloc (.cells ((Array.replicate m (Value.int .i64 0)).setIfInBounds c (.int .i64 1)) 3))) := Lib.hid (((Below.refl _ _).alloc (Nat.le_refl _) _).alloc (by simp) _)
  have HX0 : Hid (Ow ((w.alloc (.cells #[.slice (some ⟨g0, 0, none⟩) n n, .slice At kt ct, .slice Ad kd cd] 71)).alloc (.cells ((Array.replicate m (Value.int .i64 0)).setIfInBounds c (.int .i64 1)) 3)) (w.heap.size + 1) (w.heap.size + 1 + 1) 3 1 (some ⟨w.heap.size + 1, 0, none⟩) m m (cI (zerP P T m c 0))) := Lib.hid (by
    have h1 := Ow.new (w.alloc (.cells #[.slice (some ⟨g0, 0, none⟩) n n, .slice At kt ct, .slice Ad kd cd] 71)) ((Array.replicate m (Value.int .i64 0)).setIfInBounds c (.int .i64 1)) 3 1 m (by simp)
    rw [Array.toList_setIfInBounds, Array.toList_replicate, cI_zeros, cI_set, World.size_alloc] at h1
    exact h1)
  have HS0 : Hid (((w.alloc (.cells #[.slice (some ⟨g0, 0, none⟩) n n, .slice At kt ct, .slice Ad kd cd] 71)).alloc (.cells ((Array.replicate m (Value.int .i64 0)).setIfInBounds c (.int .i64 1)) 3)).heap[w.heap.size]? = some (.cells #[.slice (some ⟨g0, 0, none⟩) n n, .slice At kt ct, .slice Ad kd cd] 71 (0, 0))) := Lib.hid (by
    rw [Below.heap_alloc _ _ _ (by simp)]; exact heap_alloc_new _ _)
  clear hT hb hW hO hN
  go_enter Try.func60, Try.ntmps60
  have k0 : (0 : Int) ≤ (c : Int) := by omega
  have k1 : (c : Int) < (m : Int) := by omega
  have HXa : Hid (Ow ((w.alloc (.cells #[.slice (some ⟨g0, 0, none⟩) n n, .slice At kt ct, .slice Ad kd cd] 71)).alloc (.cells (Array.replicate m (.int .i64 0)) 3)) (w.heap.size + 1) (w.heap.size + 1 + 1) 3 1 (some ⟨w.heap.size + 1, 0, none⟩) m m (cI (List.replicate m 0))) := Lib.hid (by
    have := Ow.zeros (w.alloc (.cells #[.slice (some ⟨g0, 0, none⟩) n n, .slice At kt ct, .slice Ad kd cd] 71)) (.int .i64 0) 3 m
    rw [cI_zeros, World.size_alloc] at this; exact this)
  obtain ⟨y0, hcy0, _⟩ := HXa.out.intAt hc
  have hfy := HXa.out.free (by omega) c
  clear HXa
  go_wp2
  clear hmk hcy0 hfy
  go_loopw [22] (fun i wr => ∃ k : Nat, k ≤ kt ∧ i = .int .i64 k ∧ Hid (Ow wr (w.heap.size + 1) (w.heap.size + 1 + 1) 3 1 (some ⟨w.heap.size + 1, 0, none⟩) m m (cI (zerP P T m c k))) ∧ Hid (Below w.heap.size w wr) ∧ Hid (wr.heap[w.heap.size]? = some (.cells #[.slice (some ⟨g0, 0, none⟩) n n, .slice At kt ct, .slice Ad kd cd] 71 (0, 0))) ∧ Hid (w.heap.size + 1 + 1 ≤ wr.heap.size)) (fun i _ => kt - (intOf i).toNat)
  case atStart => exact ⟨0, Nat.zero_le _, rfl, HX0, HB0, HS0, Lib.hid (by simp)⟩
  case round =>
    clear HX0 HB0 HS0
    obtain ⟨k, hkk, rfl, HX, HB, HS, HZ⟩ := hrel
    by_cases hlt : k < kt
    · obtain ⟨a, q, rfl, hab, hcq0, HQ⟩ := HT.out.intAt hlt
      have hbq := HBD.out k hlt
      rw [← HQ.out] at hbq
      obtain ⟨j, rfl⟩ := Int.eq_ofNat_of_zero_le hbq.1
      have hjm : j < m := by omega
      have hcq := (HB.out.cell (p := a.add k) (by rw [add_block]; exact hab)).trans hcq0
      obtain ⟨z, hcz0, HZQ⟩ := HO.out.atR HW.out (k := k) (by have := HPN.out; omega) (show c < 9 by omega)
      have hcz := (HB.out.cell (p := ⟨g0, k * 9 + c, none⟩) hg).trans hcz0
      have hs0 : wr.cell? ⟨w.heap.size, 0, none⟩ = some (.slice (some ⟨g0, 0, none⟩) n n) := block_cell HS.out rfl
      obtain ⟨y, hcy, _⟩ := HX.out.intAt hjm
      have z0 : 0 ≤ z := by rw [HZQ.out]; exact (HN.out k (by have := HPN.out; omega) c).1
      have z1 : z ≤ 112 := by rw [HZQ.out]; exact (HN.out k (by have := HPN.out; omega) c).2
      have hf := HX.out.free (by omega) j
      have HX2 : Hid (Ow (wr.setCell ⟨w.heap.size + 1, j, none⟩ (.int .i64 (-z % 113))) (w.heap.size + 1) (w.heap.size + 1 + 1) 3 1 (some ⟨w.heap.size + 1, 0, none⟩) m m (cI (zerP P T m c (k + 1)))) := Lib.hid (by
        have := HX.out.set j (.int .i64 (-z % 113))
        rw [cI_set] at this
        rw [zerP, ← HQ.out, ← HZQ.out, show ((j : Int)).toNat = j by omega]; exact this)
      have kset : Kept (w.heap.size + 1) (w.heap.size + 1 + 1) wr (wr.setCell ⟨w.heap.size + 1, j, none⟩ (.int .i64 (-z % 113))) := (Kept.refl _ _ _).setCell (p := ⟨w.heap.size + 1, j, none⟩) (Nat.le_refl _) (Nat.lt_succ_self _) _
      have HB2 := Lib.hid (HB.out.setCell (p := ⟨w.heap.size + 1, j, none⟩) (by dsimp only; omega) (.int .i64 (-z % 113)))
      have HS2 := Lib.hid ((KeptS.of_kept (S := fun q => q = w.heap.size + 1) kset rfl).heap HS.out (by omega))
      have HZ2 : Hid (w.heap.size + 1 + 1 ≤ (wr.setCell ⟨w.heap.size + 1, j, none⟩ (.int .i64 (-z % 113))).heap.size) := Lib.hid (by rw [World.size_setCell]; exact HZ.out)
      clear HX HB HS HZ hcq0 hcz0 hbq kset HQ HZQ
      have i0 : (0 : Int) ≤ (k : Int) := by omega
      have i1 : (k : Int) < (kt : Int) := by omega
      have i2 : (k : Int) < (n : Int) := by omega
      have i3 : (0 : Int) ≤ (j : Int) := by omega
      have i4 : (j : Int) < (m : Int) := by omega
      have i5 : (c : Int) < 9 := by omega
      go_wp2_with fail
      refine (i_minus 0 z _ (by omega) (by omega) z0 z1).mono ?_
      rintro e w' ⟨rfl, rfl⟩
      go_wp2
      go_roundw
      case rel => exact ⟨k + 1, by omega, by go_num, HX2, HB2, HS2, HZ2⟩
      case measure => simp [intOf] <;> omega
    · obtain rfl : k = kt := by omega
      go_wp2
      go_ret
      refine ⟨_, rfl, ?_, HB.out⟩
      have := HX.out.len
      exact ⟨by omega, _, _, _, rfl, HX.out.widen (by omega) HZ.out⟩
end Go.Proofs.Ytbnobkojkfmccaa
