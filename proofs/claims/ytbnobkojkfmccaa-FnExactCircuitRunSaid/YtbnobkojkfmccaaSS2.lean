/- Lists of lists of ints: marks asked for, sizes; as whole values. -/
import Derived.Test.YtbnobkojkfmccaaSS
namespace Go.Proofs.Ytbnobkojkfmccaa
open Go.RowKit
set_option maxRecDepth 100000

set_option maxHeartbeats 1000000 in
theorem l_heldIntSS (A : Option Addr) (n c hi : Nat) (vs : List Value) (d : List (List Int)) (K : Int) (w : World) (h : RdR w hi A n vs (mkIntSS K d)) (hz : hi ≤ w.heap.size) (hn : n ≤ 1048576) (hl : lensK d n ≤ 1048576) (hK : 0 ≤ K) (hK2 : K ≤ 1000000000) :
    Calls Try.prog 30 #[.slice A n c, .int .i64 K] w fun e w' => ∃ K', e = .returned (.int .i64 K') ∧ Hid (K' = K + lensK d n) ∧ Below w.heap.size w w' := by
  have hlen : Hid (d.length = n) := Lib.hid (by have := h.2.1; rw [mkIntSS_length] at this; exact this)
  have HL := Lib.hid hl
  have H := Lib.hid h
  clear h hl
  go_enter Try.func30, Try.ntmps30
  go_wp2
  go_loopw [1, 5] (fun kk i wr => ∃ (k : Nat) (Q : Int), k ≤ n ∧ i = .int .i64 k ∧ kk = .int .i64 Q ∧ 0 ≤ Q ∧ Q ≤ 1001048576 ∧ Hid (Q = K + lensK d k) ∧ Hid (Below w.heap.size w wr)) (fun _ i _ => n - (intOf i).toNat)
  case atStart => exact ⟨0, K, Nat.zero_le _, rfl, rfl, hK, by omega, Lib.hid (by simp [lensK]), Lib.hid (Below.refl _ _)⟩
  case round =>
    obtain ⟨k, Q, hk, rfl, rfl, q0, q1, HQ, HB⟩ := hrel
    by_cases hlt : k < n
    · obtain ⟨a, Ai, ni, ci, rfl, hab, hc0, hr, _, hni⟩ := H.out.row hlt
      have hc := (HB.out.cell (p := a.add k) (by rw [add_block]; omega)).trans hc0
      have hkl : k < d.length := by have := hlen.out; omega
      rw [mkIntSS_get _ _ _ hkl] at hr hni
      rw [mkRow_len] at hni
      have HR := Lib.hid (RdIntS.below (RdIntS.more hr hz) HB.out)
      have HS : Hid (lensK d (k + 1) ≤ 1048576) := Lib.hid (by have := lensK_mono d (show k + 1 ≤ n by omega); have := HL.out; omega)
      have HNI := Lib.hid hni
      have hsm : ni ≤ 1048576 := by have := HS.out; rw [lensK] at this; omega
      have HRI : Hid (Rd wr w.heap.size 1 Ai ni (cI (iota Q ni))) := Lib.hid (by
        obtain ⟨A2, n2, c2, e, _, r⟩ := HR.out
        injection e with e1 e2 e3; subst e1; subst e2; subst e3
        rw [mkRow, ← HQ.out, hni] at r; exact r)
      clear hc0 hr hni hkl HR
      go_wp2_with fail
      refine (l_heldIntS Ai ni ci _ Q _ HRI.out hsm q0 (by omega)).mono ?_
      rintro e w2 ⟨rfl, hs⟩
      have HQ2 : Hid (Q + (ni : Int) = K + lensK d (k + 1)) := Lib.hid (by rw [HQ.out, ← HNI.out, lensK]; omega)
      have q3 : Q + (ni : Int) ≤ 1001048576 := by have := HQ2.out; have := HS.out; omega
      have HB2 : Hid (Below w.heap.size w w2) := Lib.hid (HB.out.trans (hs.below _))
      clear hs HB hc HRI
      go_wp2
      go_roundw
      case rel => exact ⟨k + 1, _, by omega, by go_num, rfl, by omega, q3, HQ2, HB2⟩
      case measure => simp [intOf] <;> omega
    · have HQ2 : Hid (Q = K + lensK d n) := Lib.hid (by have := HQ.out; rw [show k = n by omega] at this; exact this)
      clear HQ
      go_wp2
      go_ret
      exact ⟨_, rfl, HQ2, HB.out⟩

set_option maxHeartbeats 400000 in
theorem l_szIntS (A : Option Addr) (n c : Nat) (left : Int) (w : World) (hn : n ≤ 9223372036854775807) (hl : 0 ≤ left) (hl2 : left ≤ 1048576) :
    Calls Try.prog 48 #[.slice A n c, .int .i64 left] w fun e w' => e = .returned (.int .i64 (if (n : Int) ≤ left then left - n else -1)) ∧ w = w' := by
  by_cases h : (n : Int) ≤ left
  all_goals
    go_enter Try.func48, Try.ntmps48
    go_wp2
    go_ret
    exact ⟨rfl, rfl⟩

/-- the size: the rows and all that they hold -/
def szIntSS (d : List (List Int)) : Nat := d.length + lensK d d.length

set_option maxHeartbeats 1000000 in
theorem l_szIntSS (A : Option Addr) (n c hi : Nat) (vs : List Value) (d : List (List Int)) (left : Int) (w : World) (h : RdR w hi A n vs d) (hn : n ≤ 9223372036854775807) (hl : 0 ≤ left) (hl2 : left ≤ 1048576) :
    Calls Try.prog 12 #[.slice A n c, .int .i64 left] w fun e w' => ∃ L, e = .returned (.int .i64 L) ∧ Hid (((szIntSS d : Nat) ≤ left → L = left - szIntSS d) ∧ (left < (szIntSS d : Nat) → L = -1)) ∧ w = w' := by
  have hlen := Lib.hid h.2.1
  have H := Lib.hid h
  clear h
  by_cases h0 : (n : Int) ≤ left
  · go_enter Try.func12, Try.ntmps12
    go_wp2
    go_loop [1, 5] (fun l i => ∃ (k : Nat) (L : Int), k ≤ n ∧ i = .int .i64 k ∧ l = .int .i64 L ∧ 0 ≤ L ∧ L ≤ 1048576 ∧ Hid (L = left - n - lensK d k)) (fun _ i => n - (intOf i).toNat)
    case atStart => exact ⟨0, _, Nat.zero_le _, rfl, rfl, by omega, by omega, Lib.hid (by simp [lensK])⟩
    case round =>
      obtain ⟨k, L, hk, rfl, rfl, l0, l1, HQ⟩ := hrel
      by_cases hlt : k < n
      · obtain ⟨a, Ai, ni, ci, rfl, hab, hc, hr, hnn, hni⟩ := H.out.row hlt
        have HNI := Lib.hid hni
        clear hr hni
        by_cases hle : (ni : Int) ≤ L
        · have HQ2 : Hid (L - (ni : Int) = left - n - lensK d (k + 1)) := Lib.hid (by rw [HQ.out, lensK, ← HNI.out]; omega)
          go_wp2_with fail
          refine (l_szIntS Ai ni ci L _ hnn l0 l1).mono ?_
          rintro e w' ⟨rfl, rfl⟩
          rw [if_pos (by omega)]
          clear HQ
          go_wp2
          go_round
          case rel => exact ⟨k + 1, _, by omega, by go_num, rfl, by omega, by omega, HQ2⟩
          case measure => simp [intOf] <;> omega
        · have HF : Hid (((szIntSS d : Nat) ≤ left → (-1 : Int) = left - szIntSS d) ∧ (left < (szIntSS d : Nat) → (-1 : Int) = -1)) := Lib.hid (by
            have h1 := lensK_mono d (show k + 1 ≤ n by omega)
            rw [lensK] at h1
            have h2 := HQ.out
            have h3 := HNI.out
            unfold szIntSS
            rw [hlen.out]
            exact ⟨fun hh => by omega, fun _ => rfl⟩)
          go_wp2_with fail
          refine (l_szIntS Ai ni ci L _ hnn l0 l1).mono ?_
          rintro e w' ⟨rfl, rfl⟩
          rw [if_neg (by omega)]
          clear HQ
          go_wp2
          go_ret
          exact ⟨_, rfl, Lib.hid ⟨HF.out.1, fun _ => rfl⟩, rfl⟩
      · have HF : Hid (((szIntSS d : Nat) ≤ left → L = left - szIntSS d) ∧ (left < (szIntSS d : Nat) → L = -1)) := Lib.hid (by
          have h2 := HQ.out
          rw [show k = n by omega] at h2
          unfold szIntSS
          rw [hlen.out]
          exact ⟨fun hh => by omega, fun hh => by omega⟩)
        clear HQ
        go_wp2
        go_ret
        exact ⟨_, rfl, HF, rfl⟩
  · have HF : Hid (((szIntSS d : Nat) ≤ left → (-1 : Int) = left - szIntSS d) ∧ (left < (szIntSS d : Nat) → (-1 : Int) = -1)) := Lib.hid (by
      unfold szIntSS
      rw [hlen.out]
      exact ⟨fun hh => by omega, fun _ => rfl⟩)
    go_enter Try.func12, Try.ntmps12
    go_wp2
    go_ret
    exact ⟨_, rfl, Lib.hid ⟨HF.out.1, fun _ => rfl⟩, rfl⟩

/-! as whole values -/
def RdIntSS (w : World) (hi : Nat) (v : Value) (d : List (List Int)) : Prop := ∃ A n c vs, v = .slice A n c ∧ n ≤ 9223372036854775807 ∧ RdR w hi A n vs d
def OwIntSS (w : World) (lo hi : Nat) (v : Value) (d : List (List Int)) : Prop := szIntSS d ≤ 1048576 ∧ ∃ A n c vs, v = .slice A n c ∧ OwR w lo hi A n c vs d
section
variable {w w' : World} {lo hi lo' hi' B mid : Nat} {v : Value} {d : List (List Int)}
theorem RdIntSS.below (h : RdIntSS w hi v d) (hb : Below hi w w') : RdIntSS w' hi v d := by
  obtain ⟨A, n, c, vs, rfl, hn, r⟩ := h; exact ⟨A, n, c, vs, rfl, hn, r.keep hb⟩
theorem RdIntSS.more (h : RdIntSS w hi v d) (hh : hi ≤ hi') : RdIntSS w hi' v d := by
  obtain ⟨A, n, c, vs, rfl, hn, r⟩ := h; exact ⟨A, n, c, vs, rfl, hn, r.more hh⟩
theorem OwIntSS.small (h : OwIntSS w lo hi v d) : szIntSS d ≤ 1048576 := h.1
theorem OwIntSS.rd (h : OwIntSS w lo hi v d) : RdIntSS w hi v d := by
  obtain ⟨hs, A, n, c, vs, rfl, r⟩ := h
  exact ⟨A, n, c, vs, rfl, by have := r.2.1; unfold szIntSS at hs; omega, r.rd⟩
theorem OwIntSS.below (h : OwIntSS w lo hi v d) (hb : Below B w w') (hz : hi ≤ B) : OwIntSS w' lo hi v d := by
  obtain ⟨hs, A, n, c, vs, rfl, r⟩ := h; exact ⟨hs, A, n, c, vs, rfl, r.below hb hz⟩
theorem OwIntSS.kept (h : OwIntSS w lo hi v d) (hk : Kept lo' mid w w') (hz : hi ≤ w.heap.size) (hd : mid ≤ lo ∨ hi ≤ lo') : OwIntSS w' lo hi v d := by
  obtain ⟨hs, A, n, c, vs, rfl, r⟩ := h; exact ⟨hs, A, n, c, vs, rfl, r.kept hk hz hd⟩
theorem OwIntSS.widen (h : OwIntSS w lo hi v d) (h1 : lo' ≤ lo) (h2 : hi ≤ hi') : OwIntSS w lo' hi' v d := by
  obtain ⟨hs, A, n, c, vs, rfl, r⟩ := h; exact ⟨hs, A, n, c, vs, rfl, r.widen h1 h2⟩
end
theorem OwIntSS.nil_ (w : World) (lo hi : Nat) : OwIntSS w lo hi (.slice none 0 0) [] := ⟨by simp [szIntSS, lensK], none, 0, 0, [], rfl, ⟨by simp, Nat.le_refl _, .inl rfl⟩, rfl, fun i hi => by omega, fun i j hi => by omega⟩

theorem L_toIntSS (hi : Nat) (v : Value) (d : List (List Int)) (w : World) (h : RdIntSS w hi v d) (hh : hi ≤ w.heap.size) (hs : szIntSS d ≤ 1048576) :
    Calls Try.prog 14 #[v] w fun e w' => ∃ v', e = .returned v' ∧ OwIntSS w' w.heap.size w'.heap.size v' d ∧ Below w.heap.size w w' := by
  obtain ⟨A, n, c, vs, rfl, _, r⟩ := h
  have hl := r.2.1
  have hs2 := hs
  unfold szIntSS at hs2
  rw [hl] at hs2
  exact (l_toIntSS A n c vs d w (r.more hh) (by omega) (by omega)).mono fun e w' ⟨vs', he, ho, hb⟩ => ⟨_, he, ⟨hs, _, _, _, _, rfl, ho⟩, hb⟩
theorem L_eqIntSS (hi hi' : Nat) (v v' : Value) (d : List (List Int)) (w : World) (h : RdIntSS w hi v d) (h' : RdIntSS w hi' v' d) (hh : hi ≤ w.heap.size) (hh' : hi' ≤ w.heap.size) (hs : szIntSS d ≤ 1048576) :
    Calls Try.prog 16 #[v, v'] w fun e w' => e = .returned (.bool true) ∧ Below w.heap.size w w' := by
  obtain ⟨A, n, c, vs, rfl, _, r⟩ := h
  obtain ⟨A', n', c', vs', rfl, _, r'⟩ := h'
  have hl := r.2.1
  have hl' := r'.2.1
  obtain rfl : n' = n := by omega
  unfold szIntSS at hs
  rw [hl] at hs
  exact l_eqIntSS A A' _ c c' vs vs' d w (r.more hh) (r'.more hh') (by omega) (by omega)
theorem mk_lens (K : Int) (d : List (List Int)) (k : Nat) (h : k ≤ d.length) : lensK (mkIntSS K d) k = lensK d k := by
  induction k with
  | zero => rfl
  | succ k ih => rw [lensK, lensK, ih (by omega), mkIntSS_get _ _ _ (by omega), mkRow_len]
theorem mk_sz (K : Int) (d : List (List Int)) : szIntSS (mkIntSS K d) = szIntSS d := by unfold szIntSS; rw [mkIntSS_length, mk_lens _ _ _ (Nat.le_refl _)]
theorem L_markIntSS (lo hi : Nat) (v : Value) (d : List (List Int)) (K : Int) (w : World) (h : OwIntSS w lo hi v d) (hz : hi ≤ w.heap.size) (hK : 0 ≤ K) (hK2 : K ≤ 1000000000) :
    Calls Try.prog 21 #[v, .int .i64 K] w fun e w' => ∃ K', e = .returned (.int .i64 K') ∧ Hid (K' = K + (lensK d d.length : Nat)) ∧ 0 ≤ K' ∧ K' ≤ K + 1048576 ∧ OwIntSS w' lo hi v (mkIntSS K d) ∧ Kept lo hi w w' := by
  obtain ⟨hs, A, n, c, vs, rfl, r⟩ := h
  have hl := r.2.1
  have hs2 := hs
  unfold szIntSS at hs2
  rw [hl] at hs2 ⊢
  refine (l_markIntSS A n c lo hi vs d K w r hz (by omega) (by omega) hK hK2).mono fun e w' ⟨K', he, hk, ho, hkp⟩ => ⟨K', he, hk, ?_, ?_, ⟨by rw [mk_sz]; exact hs, _, _, _, _, rfl, ho⟩, hkp⟩
  · have := hk.out; omega
  · have := hk.out; omega
theorem L_heldIntSS (hi : Nat) (v : Value) (d : List (List Int)) (K q : Int) (w : World) (h : RdIntSS w hi v (mkIntSS K d)) (hz : hi ≤ w.heap.size) (hs : szIntSS d ≤ 1048576) (hq : Hid (q = K)) (hK : 0 ≤ K) (hK2 : K ≤ 1000000000) :
    Calls Try.prog 30 #[v, .int .i64 q] w fun e w' => ∃ K', e = .returned (.int .i64 K') ∧ Hid (K' = K + (lensK d d.length : Nat)) ∧ 0 ≤ K' ∧ K' ≤ K + 1048576 ∧ Below w.heap.size w w' := by
  obtain ⟨A, n, c, vs, rfl, _, r⟩ := h
  have hl := r.2.1
  rw [mkIntSS_length] at hl
  unfold szIntSS at hs
  rw [hl] at hs ⊢
  obtain rfl : q = K := hq.out
  refine (l_heldIntSS A n c hi vs d q w r hz (by omega) (by omega) hK hK2).mono fun e w' ⟨K', he, hk, hb⟩ => ⟨K', he, hk, ?_, ?_, hb⟩
  · have := hk.out; omega
  · have := hk.out; omega
theorem L_szIntSS_ok (hi : Nat) (v : Value) (d : List (List Int)) (left : Int) (w : World) (h : RdIntSS w hi v d) (hl0 : 0 ≤ left) (hl1 : left ≤ 1048576) (hl : (szIntSS d : Nat) ≤ left) :
    Calls Try.prog 12 #[v, .int .i64 left] w fun e w' => ∃ L', e = .returned (.int .i64 L') ∧ Hid (L' = left - szIntSS d) ∧ 0 ≤ L' ∧ L' ≤ left ∧ Below w.heap.size w w' := by
  obtain ⟨A, n, c, vs, rfl, hn, r⟩ := h
  refine (l_szIntSS A n c hi vs d left w r hn hl0 hl1).mono fun e w' ⟨L, he, hL, hw⟩ => ⟨L, he, Lib.hid (hL.out.1 hl), ?_, ?_, hw ▸ Below.refl _ _⟩
  · have := hL.out.1 hl; omega
  · have := hL.out.1 hl; omega
theorem L_szIntSS_no (hi : Nat) (v : Value) (d : List (List Int)) (left : Int) (w : World) (h : RdIntSS w hi v d) (hl0 : 0 ≤ left) (hl1 : left ≤ 1048576) (hl : left < (szIntSS d : Nat)) :
    Calls Try.prog 12 #[v, .int .i64 left] w fun e w' => e = .returned (.int .i64 (-1)) ∧ Below w.heap.size w w' := by
  obtain ⟨A, n, c, vs, rfl, hn, r⟩ := h
  refine (l_szIntSS A n c hi vs d left w r hn hl0 hl1).mono fun e w' ⟨L, he, hL, hw⟩ => ⟨?_, hw ▸ Below.refl _ _⟩
  rw [he, hL.out.2 hl]
end Go.Proofs.Ytbnobkojkfmccaa
