/- Lists of truths as whole values: cells, the laws' own helpers, what a law hands from call to call. -/
import Derived.Test.YtbabkaofhhaneaaFaceI
namespace Go.Proofs.Ytbabkaofhhaneaa
open Go.RowKit
set_option maxRecDepth 100000

/-- truths as cells -/
def cB (xs : List Bool) : List Value := xs.map Value.bool
theorem cB_length (xs : List Bool) : (cB xs).length = xs.length := by simp [cB]
theorem cB_get (xs : List Bool) (j : Nat) (h : j < xs.length) : (cB xs)[j]? = some (.bool (xs.getD j false)) := by
  simp [cB, h]
theorem cB_set (zs : List Bool) (j : Nat) (v : Bool) : (cB zs).set j (.bool v) = cB (zs.set j v) := by simp [cB, List.map_set]
theorem cB_zeros (n : Nat) : List.replicate n (Value.bool false) = cB (List.replicate n false) := by simp [cB]
theorem cB_one (zs : List Bool) : ∀ u ∈ cB zs, u.oneCell' = true := by
  intro u hu
  obtain ⟨b, _, rfl⟩ := List.mem_map.1 hu
  rfl
section
variable {w w' : World} {lo hi lo' hi' e n c : Nat} {A : Option Addr} {zs : List Bool}
theorem Rd.blen (h : Rd w hi 1 A n (cB zs)) : zs.length = n := by have := h.1; rw [cB_length] at this; omega
theorem Ow.blen (h : Ow w lo hi e 1 A n c (cB zs)) : zs.length = n := by have := h.1; rw [cB_length] at this; omega
theorem Rd.boolAt (h : Rd w hi 1 A n (cB zs)) {k : Nat} (hk : k < n) : ∃ (a : Addr) (z : Bool), A = some a ∧ a.block < hi ∧ w.cell? (a.add k) = some (.bool z) ∧ Hid (z = zs.getD k false) := by
  obtain ⟨a, e, hb, hc⟩ := h.2 (by omega)
  exact ⟨a, _, e, hb, hc k _ (cB_get zs k (by have := h.blen; omega)), Lib.hid rfl⟩
theorem Ow.boolAt {a : Option Nat} {g k : Nat} (h : Ow w lo hi e 1 (some ⟨g, 0, a⟩) n c (cB zs)) (hk : k < n) : ∃ z : Bool, w.cell? ⟨g, k, none⟩ = some (.bool z) ∧ Hid (z = zs.getD k false) :=
  ⟨_, h.cellAt (cB_get zs k (by have := h.blen; omega)), Lib.hid rfl⟩
end
theorem ret_vvb2 {g k : Value} {a b : Bool} (h : a = b) : Ending.returned (.tuple #[g, k, .bool a]) = .returned (.tuple #[g, k, .bool b]) := by rw [h]
theorem info_bool : (Try.prog.info? 4).map (fun i => (i.zero, i.size, i.bytes)) = some (some (.bool false), 1, 1) := by kernel_rfl
theorem copyB_step {zs : List Bool} {n k : Nat} (hz : zs.length = n) (hk : k < n) : (zs.take k ++ List.replicate (n - k) false).set k (zs.getD k false) = zs.take (k + 1) ++ List.replicate (n - (k + 1)) false := by
  have hl : (zs.take k).length = k := by simp; omega
  rw [List.set_append_right _ _ (by omega), hl, Nat.sub_self, show n - k = (n - (k + 1)) + 1 by omega, List.replicate_succ]
  have hk' : k < zs.length := by omega
  rw [List.set_cons_zero, List.take_succ_eq_append_getElem hk', List.append_assoc, List.singleton_append]
  simp [hk']

set_option maxHeartbeats 400000 in
theorem l_toBoolS (A : Option Addr) (n c : Nat) (zs : List Bool) (w : World) (h : Rd w w.heap.size 1 A n (cB zs)) (hn : n ≤ 1048576) :
    Calls Try.prog 21 #[.slice A n c] w fun e w' => e = .returned (.slice (some ⟨w.heap.size, 0, none⟩) n n) ∧ Ow w' w.heap.size (w.heap.size + 1) 4 1 (some ⟨w.heap.size, 0, none⟩) n n (cB zs) ∧ Below w.heap.size w w' := by
  have hmk := fun W => run_make1 (P := Try.prog) Try.underlying26 info_bool rfl n (by omega) (by omega) W
  have hlen : Hid (zs.length = n) := Lib.hid h.blen
  have H := Lib.hid h
  clear h
  go_enter Try.func21, Try.ntmps21
  go_wp2
  go_loopw [4] (fun i wr => ∃ k : Nat, k ≤ n ∧ i = .int .i64 k ∧ Hid (Ow wr w.heap.size (w.heap.size + 1) 4 1 (some ⟨w.heap.size, 0, none⟩) n n (cB (zs.take k ++ List.replicate (n - k) false))) ∧ Hid (Below w.heap.size w wr)) (fun i _ => n - (intOf i).toNat)
  case atStart => exact ⟨0, Nat.zero_le _, rfl, Lib.hid (by rw [List.take_zero, List.nil_append, Nat.sub_zero, ← cB_zeros]; exact Ow.zeros _ _ _ _), Lib.hid ((Below.refl _ _).alloc (Nat.le_refl _) _)⟩
  case round =>
    obtain ⟨k, hk, rfl, HO, HB⟩ := hrel
    by_cases hlt : k < n
    · obtain ⟨a, z, rfl, hab, hc, HZ⟩ := H.out.boolAt hlt
      have hck := (HB.out.cell (p := a.add k) (by rw [add_block]; exact hab)).trans hc
      have hd : wr.cell? ⟨w.heap.size, k, none⟩ = some (.bool ((zs.take k ++ List.replicate (n - k) false).getD k false)) := HO.out.cellAt (cB_get _ _ (by simp; have := hlen.out; omega))
      have hf := HO.out.free (by omega) k
      have HO2 := Lib.hid (HO.out.set k (.bool (zs.getD k false)))
      rw [cB_set, copyB_step hlen.out hlt, ← HZ.out] at HO2
      have HB2 := Lib.hid (HB.out.setCell (p := ⟨w.heap.size, k, none⟩) (Nat.le_refl _) (.bool z))
      clear hc HO HB
      go_wp2
      go_roundw
      case rel => exact ⟨k + 1, by omega, by go_num, HO2, HB2⟩
      case measure => simp [intOf] <;> omega
    · have hkn : k = n := by omega
      have HO2 : Hid (Ow wr w.heap.size (w.heap.size + 1) 4 1 (some ⟨w.heap.size, 0, none⟩) n n (cB zs)) := Lib.hid (by
        have := HO.out; rw [hkn, List.take_of_length_le (by have := hlen.out; omega), Nat.sub_self, List.replicate_zero, List.append_nil] at this; exact this)
      clear HO hkn
      go_wp2
      go_ret
      exact ⟨rfl, HO2.out, HB.out⟩

set_option maxHeartbeats 400000 in
/-- both the same: true -/
theorem l_eqBoolS (A A' : Option Addr) (n c c' : Nat) (zs : List Bool) (w : World) (h : Rd w w.heap.size 1 A n (cB zs)) (h' : Rd w w.heap.size 1 A' n (cB zs)) (hn : n ≤ 1048576) :
    Calls Try.prog 23 #[.slice A n c, .slice A' n c'] w fun e w' => e = .returned (.bool true) ∧ Still w w' := by
  have H := Lib.hid h
  have H' := Lib.hid h'
  clear h h'
  go_enter Try.func23, Try.ntmps23
  go_wp2
  go_loopw [5] (fun i wr => ∃ k m : Nat, k ≤ n ∧ i = .int .i64 k ∧ wr = w.drewN m) (fun i _ => n - (intOf i).toNat)
  case atStart => exact ⟨0, 0, Nat.zero_le _, rfl, rfl⟩
  case round =>
    obtain ⟨k, m, hk, rfl, rfl⟩ := hrel
    by_cases hlt : k < n
    · obtain ⟨a, z, rfl, hab, hck, HZ⟩ := H.out.boolAt hlt
      obtain ⟨a', z', rfl, hab', hck', HZ'⟩ := H'.out.boolAt hlt
      obtain rfl : z = z' := HZ.out.trans HZ'.out.symm
      have i0 : (0 : Int) ≤ (k : Int) := by omega
      have i1 : (k : Int) < (n : Int) := by omega
      go_wp2
      go_quiet (fail)
      go_wp2
      go_roundw
      case rel => exact ⟨k + 1, _, by omega, by go_num, rfl⟩
      case measure => simp [intOf] <;> omega
    · go_wp2
      go_ret
      exact ⟨rfl, m, rfl⟩

/-- the marks: whether K, K + 1, .. are thrice something -/
def iotaB (K : Int) (n : Nat) : List Bool := (List.range n).map fun i : Nat => (K + (i : Int)) % 3 == 0
theorem iotaB_length (K : Int) (n : Nat) : (iotaB K n).length = n := by simp [iotaB]
theorem iotaB_get (K : Int) (n j : Nat) (h : j < n) : (iotaB K n).getD j false = ((K + j) % 3 == 0) := by simp [iotaB, h]
theorem iotaB_succ (K : Int) (n : Nat) : iotaB K (n + 1) = iotaB K n ++ [(K + n) % 3 == 0] := by simp [iotaB, List.range_succ]
theorem markB_step {zs : List Bool} {n k : Nat} (K : Int) (hz : zs.length = n) (hk : k < n) : (iotaB K k ++ zs.drop k).set k ((K + k) % 3 == 0) = iotaB K (k + 1) ++ zs.drop (k + 1) := by
  have hl := iotaB_length K k
  have hk' : k < zs.length := by omega
  rw [List.set_append_right _ _ (by omega), hl, Nat.sub_self, iotaB_succ, List.append_assoc, List.drop_eq_getElem_cons hk', List.set_cons_zero, List.singleton_append]

set_option maxHeartbeats 400000 in
theorem l_markBoolS (A : Option Addr) (n c lo hi : Nat) (zs : List Bool) (K : Int) (w : World) (h : Ow w lo hi 4 1 A n c (cB zs)) (hn : n ≤ 1048576) (hK : 0 ≤ K) (hK2 : K ≤ 1000000000000) :
    Calls Try.prog 24 #[.slice A n c, .int .i64 K] w fun e w' => e = .returned (.int .i64 (K + n)) ∧ Ow w' lo hi 4 1 A n c (cB (iotaB K n)) ∧ Kept lo hi w w' ∧ w'.heap.size = w.heap.size := by
  have hlen : Hid (zs.length = n) := Lib.hid h.blen
  have H := Lib.hid h
  clear h
  go_enter Try.func24, Try.ntmps24
  go_wp2
  go_loopw [1, 5] (fun kk i wr => ∃ k : Nat, k ≤ n ∧ i = .int .i64 k ∧ kk = .int .i64 (K + k) ∧ Hid (Ow wr lo hi 4 1 A n c (cB (iotaB K k ++ zs.drop k))) ∧ Hid (Kept lo hi w wr) ∧ Hid (wr.heap.size = w.heap.size)) (fun _ i _ => n - (intOf i).toNat)
  case atStart => exact ⟨0, Nat.zero_le _, rfl, by go_num, H, Lib.hid (Kept.refl _ _ _), Lib.hid rfl⟩
  case round =>
    obtain ⟨k, hk, rfl, rfl, HO, HB, HZ⟩ := hrel
    by_cases hlt : k < n
    · obtain ⟨g, cs, hA, g1, g2, _, _⟩ := HO.out.lt (by omega)
      subst hA
      have hd : wr.cell? ⟨g, k, none⟩ = some (.bool ((iotaB K k ++ zs.drop k).getD k false)) := HO.out.cellAt (cB_get _ _ (by simp [iotaB_length]; have := hlen.out; omega))
      have hf := HO.out.free (by omega) k
      have HO2 := Lib.hid (HO.out.set k (.bool ((K + k) % 3 == 0)))
      rw [cB_set, markB_step K hlen.out hlt] at HO2
      have HB2 := Lib.hid (HB.out.setCell (p := ⟨g, k, none⟩) g1 g2 (.bool ((K + k) % 3 == 0)))
      have HZ2 : Hid ((wr.setCell ⟨g, k, none⟩ (.bool ((K + k) % 3 == 0))).heap.size = w.heap.size) := Lib.hid (by rw [World.size_setCell]; exact HZ.out)
      have q1 : (K + (k : Int)).tmod 3 = (K + k) % 3 := Int.tmod_eq_emod_of_nonneg (by omega)
      have q2 : IntKind.i64.wrap ((K + (k : Int)) % 3) = (K + k) % 3 := IntWalk.i64_in _ (by omega)
      clear HO HB HZ
      go_wp2
      go_roundw
      case rel => exact ⟨k + 1, by omega, by go_num, by go_num, HO2, HB2, HZ2⟩
      case measure => simp [intOf] <;> omega
    · have hkn : k = n := by omega
      have HO2 : Hid (Ow wr lo hi 4 1 A n c (cB (iotaB K n))) := Lib.hid (by
        have := HO.out; rw [hkn, List.drop_of_length_le (by have := hlen.out; omega), List.append_nil] at this; exact this)
      have HR : Hid (K + (k : Int) = K + (n : Int)) := Lib.hid (by rw [hkn])
      clear HO hkn
      go_wp2
      go_ret
      exact ⟨ret_int HR.out, HO2.out, HB.out, HZ.out⟩

set_option maxHeartbeats 400000 in
theorem l_heldBoolS (A : Option Addr) (n c hi : Nat) (K : Int) (w : World) (h : Rd w hi 1 A n (cB (iotaB K n))) (hn : n ≤ 1048576) (hK : 0 ≤ K) (hK2 : K ≤ 1000000000000) :
    Calls Try.prog 25 #[.slice A n c, .int .i64 K] w fun e w' => e = .returned (.int .i64 (K + n)) ∧ Still w w' := by
  have H := Lib.hid h
  clear h
  go_enter Try.func25, Try.ntmps25
  go_wp2
  go_loopw [1, 5] (fun kk i wr => ∃ k m : Nat, k ≤ n ∧ i = .int .i64 k ∧ kk = .int .i64 (K + k) ∧ wr = w.drewN m) (fun _ i _ => n - (intOf i).toNat)
  case atStart => exact ⟨0, 0, Nat.zero_le _, rfl, by go_num, rfl⟩
  case round =>
    obtain ⟨k, m, hk, rfl, rfl, rfl⟩ := hrel
    by_cases hlt : k < n
    · obtain ⟨a, z, rfl, hab, hck, HZ⟩ := H.out.boolAt hlt
      have hz := HZ.out
      rw [iotaB_get K n k hlt] at hz
      subst hz
      clear HZ
      have i0 : (0 : Int) ≤ (k : Int) := by omega
      have i1 : (k : Int) < (n : Int) := by omega
      have q1 : (K + (k : Int)).tmod 3 = (K + k) % 3 := Int.tmod_eq_emod_of_nonneg (by omega)
      have q2 : IntKind.i64.wrap ((K + (k : Int)) % 3) = (K + k) % 3 := IntWalk.i64_in _ (by omega)
      go_wp2
      try go_quiet (fail)
      try go_wp2
      go_roundw
      case rel => exact ⟨k + 1, _, by omega, by go_num, by go_num, rfl⟩
      case measure => simp [intOf] <;> omega
    · have hkn : k = n := by omega
      have HR : Hid (K + (k : Int) = K + (n : Int)) := Lib.hid (by rw [hkn])
      clear hkn
      go_wp2
      go_ret
      exact ⟨ret_int HR.out, m, rfl⟩

/-- v reads as the list d, below block hi -/
def RdBoolS (w : World) (hi : Nat) (v : Value) (d : List Bool) : Prop := ∃ A n c, v = .slice A n c ∧ n ≤ 9223372036854775807 ∧ Rd w hi 1 A n (cB d)
/-- v is the list d in a block of its own between lo and hi -/
def OwBoolS (w : World) (lo hi : Nat) (v : Value) (d : List Bool) : Prop := d.length ≤ 1048576 ∧ ∃ A n c, v = .slice A n c ∧ Ow w lo hi 4 1 A n c (cB d)
def szBoolS (d : List Bool) : Nat := d.length
def mkBoolS (K : Int) (d : List Bool) : List Bool := iotaB K d.length
section
variable {w w' : World} {lo hi lo' hi' B mid : Nat} {v : Value} {d : List Bool}
theorem RdBoolS.below (h : RdBoolS w hi v d) (hb : Below hi w w') : RdBoolS w' hi v d := by
  obtain ⟨A, n, c, rfl, hn, r⟩ := h; exact ⟨A, n, c, rfl, hn, r.below hb⟩
theorem RdBoolS.more (h : RdBoolS w hi v d) (hh : hi ≤ hi') : RdBoolS w hi' v d := by
  obtain ⟨A, n, c, rfl, hn, r⟩ := h; exact ⟨A, n, c, rfl, hn, r.more hh⟩
theorem OwBoolS.small (h : OwBoolS w lo hi v d) : szBoolS d ≤ 1048576 := h.1
theorem OwBoolS.rd (h : OwBoolS w lo hi v d) : RdBoolS w hi v d := by
  obtain ⟨hs, A, n, c, rfl, r⟩ := h
  exact ⟨A, n, c, rfl, by have := r.blen; omega, r.rd⟩
theorem OwBoolS.below (h : OwBoolS w lo hi v d) (hb : Below B w w') (hz : hi ≤ B) : OwBoolS w' lo hi v d := by
  obtain ⟨hs, A, n, c, rfl, r⟩ := h; exact ⟨hs, A, n, c, rfl, r.below hb hz⟩
theorem OwBoolS.kept (h : OwBoolS w lo hi v d) (hk : Kept lo' mid w w') (hz : hi ≤ w.heap.size) (hd : mid ≤ lo ∨ hi ≤ lo') : OwBoolS w' lo hi v d := by
  obtain ⟨hs, A, n, c, rfl, r⟩ := h; exact ⟨hs, A, n, c, rfl, r.kept hk hz hd⟩
theorem OwBoolS.widen (h : OwBoolS w lo hi v d) (h1 : lo' ≤ lo) (h2 : hi ≤ hi') : OwBoolS w lo' hi' v d := by
  obtain ⟨hs, A, n, c, rfl, r⟩ := h; exact ⟨hs, A, n, c, rfl, r.widen h1 h2⟩
end
/-- a nil slice -/
theorem OwBoolS.nil_ (w : World) (lo hi : Nat) : OwBoolS w lo hi (.slice none 0 0) [] := ⟨by simp, none, 0, 0, rfl, by simp [cB], Nat.le_refl _, .inl rfl⟩

theorem L_toBoolS (hi : Nat) (v : Value) (d : List Bool) (w : World) (h : RdBoolS w hi v d) (hh : hi ≤ w.heap.size) (hs : szBoolS d ≤ 1048576) :
    Calls Try.prog 21 #[v] w fun e w' => ∃ v', e = .returned v' ∧ OwBoolS w' w.heap.size w'.heap.size v' d ∧ Below w.heap.size w w' := by
  obtain ⟨A, n, c, rfl, _, r⟩ := h
  have hl := r.blen
  unfold szBoolS at hs
  refine (l_toBoolS A n c d w (r.more hh) (by omega)).mono fun e w' ⟨he, ho, hb⟩ => ?_
  refine ⟨_, he, ⟨hs, _, _, _, rfl, ?_⟩, hb⟩
  rcases ho.2.2 with h0 | ⟨g, cs, hA, h1, h2, hg, r⟩
  · exact ⟨ho.1, ho.2.1, .inl h0⟩
  · exact ⟨ho.1, ho.2.1, .inr ⟨g, cs, hA, h1, (Array.getElem?_eq_some_iff.1 hg).1, hg, r⟩⟩

theorem L_eqBoolS (hi hi' : Nat) (v v' : Value) (d : List Bool) (w : World) (h : RdBoolS w hi v d) (h' : RdBoolS w hi' v' d) (hh : hi ≤ w.heap.size) (hh' : hi' ≤ w.heap.size) (hs : szBoolS d ≤ 1048576) :
    Calls Try.prog 23 #[v, v'] w fun e w' => e = .returned (.bool true) ∧ Below w.heap.size w w' := by
  obtain ⟨A, n, c, rfl, _, r⟩ := h
  obtain ⟨A', n', c', rfl, _, r'⟩ := h'
  have hl := r.blen
  have hl' := r'.blen
  obtain rfl : n' = n := by omega
  unfold szBoolS at hs
  exact (l_eqBoolS A A' _ c c' d w (r.more hh) (r'.more hh') (by omega)).mono fun e w' ⟨he, hw⟩ => ⟨he, hw.below _⟩

theorem L_markBoolS (lo hi : Nat) (v : Value) (d : List Bool) (K : Int) (w : World) (h : OwBoolS w lo hi v d) (_hz : hi ≤ w.heap.size) (hK : 0 ≤ K) (hK2 : K ≤ 1000000000) :
    Calls Try.prog 24 #[v, .int .i64 K] w fun e w' => ∃ K', e = .returned (.int .i64 K') ∧ Hid (K' = K + szBoolS d) ∧ 0 ≤ K' ∧ K' ≤ K + 1048576 ∧ OwBoolS w' lo hi v (mkBoolS K d) ∧ Kept lo hi w w' := by
  obtain ⟨hs, A, n, c, rfl, r⟩ := h
  have hl := r.blen
  refine (l_markBoolS A n c lo hi d K w r (by omega) hK (by omega)).mono fun e w' ⟨he, ho, hk, _⟩ => ?_
  refine ⟨_, he, Lib.hid (by unfold szBoolS; omega), by omega, by omega, ⟨by rw [mkBoolS, iotaB_length]; exact hs, _, _, _, rfl, ?_⟩, hk⟩
  unfold mkBoolS; rw [hl]; exact ho

theorem L_heldBoolS (hi : Nat) (v : Value) (d : List Bool) (K q : Int) (w : World) (h : RdBoolS w hi v (mkBoolS K d)) (_hz : hi ≤ w.heap.size) (hs : szBoolS d ≤ 1048576) (hq : Hid (q = K)) (hK : 0 ≤ K) (hK2 : K ≤ 1000000000) :
    Calls Try.prog 25 #[v, .int .i64 q] w fun e w' => ∃ K', e = .returned (.int .i64 K') ∧ Hid (K' = K + szBoolS d) ∧ 0 ≤ K' ∧ K' ≤ K + 1048576 ∧ Below w.heap.size w w' := by
  obtain ⟨A, n, c, rfl, _, r⟩ := h
  have hl := r.blen
  rw [mkBoolS, iotaB_length] at hl
  unfold szBoolS at hs
  obtain rfl : q = K := hq.out
  unfold mkBoolS at r; rw [hl] at r
  refine (l_heldBoolS A n c hi q w r (by omega) hK (by omega)).mono fun e w' ⟨he, hk⟩ => ?_
  exact ⟨_, he, Lib.hid (by unfold szBoolS; omega), by omega, by omega, hk.below _⟩
end Go.Proofs.Ytbabkaofhhaneaa
