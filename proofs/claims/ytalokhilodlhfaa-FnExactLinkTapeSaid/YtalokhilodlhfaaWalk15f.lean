/- Chapter 15: EitherTape of both sides. Made by tools/gen15/f.py. -/
import Derived.Test.YtalokhilodlhfaaWalk15e
import Derived.Deep.RegionWith
namespace Go.Proofs.Ytalokhilodlhfaa
open Go.RowKit
set_option maxRecDepth 100000

theorem etape_no {ks : List Int} {l : List Pf} {i s : Int} (h : etapeB ks l i s = false) : Hid (false = R_EitherTape_1 ks l i s ∧ R_EitherTape_0 ks l i s = []) := Lib.hid ⟨h.symm, by unfold R_EitherTape_0; rw [h]; rfl⟩
theorem etape_yes {ks : List Int} {l : List Pf} {i s : Int} (h : etapeB ks l i s = true) : Hid (true = R_EitherTape_1 ks l i s ∧ R_EitherTape_0 ks l i s = tapeL l i.toNat s ks.length) := Lib.hid ⟨h.symm, by unfold R_EitherTape_0; rw [if_pos h]⟩
theorem ret_vb5 {g : Value} {a b : Bool} (h : a = b) : Ending.returned (.tuple #[g, .bool a]) = .returned (.tuple #[g, .bool b]) := by rw [h]
theorem OwIntS.nil5 (w : World) (lo hi : Nat) : OwIntS w lo hi (.slice none 0 0) [] := ⟨by simp, none, 0, 0, rfl, by simp [cI], Nat.le_refl _, .inl rfl⟩
theorem keysB_len {ks : List Int} (h : keysB ks = true) : 1 ≤ ks.length ∧ ks.length ≤ 6 := by
  simp only [keysB, Bool.and_eq_true, inB_iff] at h; omega
theorem ownB_at {ks : List Int} {i s : Int} (h : ownB ks i s = true) : (0 ≤ i ∧ i < ks.length) ∧ (0 ≤ s ∧ s ≤ 112) ∧ powI 4 s 227 = ks.getD i.toNat 0 := by
  simp only [ownB, Bool.and_eq_true, inB_iff, decide_eq_true_eq] at h
  exact ⟨by omega, (numB_iff s).1 h.2.1, h.2.2⟩
def rawL (l : List Pf) (n : Nat) : List Int := (List.range n).flatMap fun j => [(l.getD j (0, 0, 0)).2.1, (l.getD j (0, 0, 0)).2.2]
theorem rawL_succ (l : List Pf) (n : Nat) : rawL l (n + 1) = rawL l n ++ [(l.getD n (0, 0, 0)).2.1, (l.getD n (0, 0, 0)).2.2] := by simp [rawL, List.range_succ]
theorem rawL_length (l : List Pf) (n : Nat) : (rawL l n).length = 2 * n := by
  induction n with
  | zero => rfl
  | succ n ih => rw [rawL_succ, List.length_append, ih]; simp; omega
theorem raw_same (l : List Pf) (q : Nat) (s : Int) {n : Nat} (h : n ≤ q) : rawL l n = tapeL l q s n := by
  induction n with
  | zero => rfl
  | succ n ih => rw [rawL_succ, tapeL_succ, ih (by omega)]; unfold tapeJ; rw [if_neg (by omega)]
theorem raw_set (l : List Pf) (q : Nat) (s : Int) {n : Nat} (h : q < n) : ((rawL l n).set (2 * q) (((l.getD q (0, 0, 0)).2.2 - (l.getD q (0, 0, 0)).2.1 * s) % 113)).set (2 * q + 1) 0 = tapeL l q s n := by
  induction n with
  | zero => omega
  | succ n ih =>
    have hl := rawL_length l n
    rw [rawL_succ, tapeL_succ]
    by_cases e : q = n
    · subst e
      rw [List.set_append_right _ _ (by omega), hl, Nat.sub_self, List.set_cons_zero, List.set_append_right _ _ (by omega), hl, show 2 * q + 1 - 2 * q = 0 + 1 by omega, List.set_cons_succ, List.set_cons_zero, raw_same l q s (Nat.le_refl _)]
      unfold tapeJ; rw [if_pos rfl]
      congr 2; omega
    · rw [List.set_append_left _ _ (by omega), List.set_append_left _ _ (by rw [List.length_set]; omega), ih (by omega)]
      unfold tapeJ; rw [if_neg (by omega)]

set_option maxHeartbeats 8000000 in
theorem X_i_EitherTape (v v1 : Value) (ks : List Int) (l : List Pf) (i s : Int) (w : World) (h : RdIntS w w.heap.size v ks) (h1 : RdProofS w w.heap.size v1 l) (hs : szIntS ks ≤ 1048576) (hs1 : szProofS l ≤ 1048576) :
    Calls Try.prog 29 #[v, v1, .int .i64 i, .int .i64 s] w fun e w' => ∃ g, e = .returned (.tuple #[g, .bool (R_EitherTape_1 ks l i s)]) ∧ OwIntS w' w.heap.size w'.heap.size g (R_EitherTape_0 ks l i s) ∧ Below w.heap.size w w' := by
  obtain ⟨A, n, c, rfl, _, h⟩ := h
  obtain ⟨A1, n1, c1, rfl, _, h1⟩ := h1
  have HL := Lib.hid h.len
  have HL1 := Lib.hid h1.Prooflen
  have hn : n ≤ 1048576 := by have := HL.out; unfold szIntS at hs; omega
  have hn1 : n1 ≤ 1048576 := by have := HL1.out; unfold szProofS at hs1; omega
  have H := Lib.hid h
  have H1 := Lib.hid h1
  clear h h1 hs hs1
  obtain ⟨W0, hW0⟩ : ∃ W, Hid (w.alloc (.cells #[.int .i64 i, .int .i64 s] 75) = W) := ⟨_, Lib.hid rfl⟩
  have HB0 : Hid (Below w.heap.size w W0) := Lib.hid (by rw [← hW0.out]; exact (Below.refl _ _).alloc (Nat.le_refl _) _)
  have HX0 : Hid (Bx W0 w.heap.size #[.int .i64 i, .int .i64 s] 75) := Lib.hid (by rw [← hW0.out]; exact Bx.new _ _ _)
  have z0 := HB0.out.size
  go_enter Try.func29, Try.ntmps29
  go_wp2_with fail
  rw [hW0.out]
  clear hW0
  refine (i_keysOk A n c ks W0 ((H.out.below HB0.out).more z0) hn).mono ?_
  rintro e w' ⟨rfl, rfl⟩
  cases hk : keysB ks
  · have HF := etape_no (ks := ks) (l := l) (i := i) (s := s) (by unfold etapeB; rw [hk]; rfl)
    go_wp2
    go_ret2
    exact ⟨_, ret_vb5 HF.out.1, by rw [HF.out.2]; exact OwIntS.nil5 _ _ _, HB0.out⟩
  go_wp2_with fail
  refine (i_goods A n c ks A1 n1 c1 l W0 ((H.out.below HB0.out).more z0) ((H1.out.below HB0.out).more z0) hn hn1).mono ?_
  rintro e w1 ⟨rfl, hb⟩
  have HB1 : Hid (Below w.heap.size w w1) := Lib.hid (HB0.out.trans (hb.mono z0))
  have HX1 := Lib.hid (HX0.out.below hb HX0.out.lt)
  have z1 := HB1.out.size
  clear hb HB0 HX0 z0
  cases ga : goodsB ks l
  · have HF := etape_no (ks := ks) (l := l) (i := i) (s := s) (by unfold etapeB; rw [ga]; simp)
    go_wp2
    go_ret2
    exact ⟨_, ret_vb5 HF.out.1, by rw [HF.out.2]; exact OwIntS.nil5 _ _ _, HB1.out⟩
  have f0 : w1.cell? ⟨w.heap.size, 0, none⟩ = some (.int .i64 i) := HX1.out.cell 0
  have f1 : w1.cell? ⟨w.heap.size, 1, none⟩ = some (.int .i64 s) := HX1.out.cell 1
  go_wp2_with fail
  clear f0 f1
  refine (i_known_ok A n c ks i s w1 ((H.out.below HB1.out).more z1) hn).mono ?_
  rintro e w2 ⟨rfl, hb⟩
  have HB2 : Hid (Below w.heap.size w w2) := Lib.hid (HB1.out.trans (hb.mono z1))
  have HX2 := Lib.hid (HX1.out.below hb HX1.out.lt)
  have z2 := HB2.out.size
  clear hb HB1 HX1 z1
  cases ho : ownB ks i s
  · have HF := etape_no (ks := ks) (l := l) (i := i) (s := s) (by unfold etapeB; rw [ho]; simp)
    go_wp2
    go_ret2
    exact ⟨_, ret_vb5 HF.out.1, by rw [HF.out.2]; exact OwIntS.nil5 _ _ _, HB2.out⟩
  have HF := etape_yes (ks := ks) (l := l) (i := i) (s := s) (by unfold etapeB; rw [hk, ga, ho]; rfl)
  have hlen := (goodsB_len ga).1
  have HG := Lib.hid (goodsB_len ga).2
  have hk6 := keysB_len hk
  have hown := ownB_at ho
  rw [HL.out] at hlen hk6
  rw [HL1.out] at hlen
  obtain rfl : n1 = n := hlen
  obtain ⟨⟨i0, i1⟩, ⟨s0, s1⟩, _⟩ := hown
  obtain ⟨q, rfl⟩ := Int.eq_ofNat_of_zero_le i0
  rw [Int.toNat_natCast, HL.out] at HF
  rw [HL.out] at HG
  clear hk ga ho
  have f0 : w2.cell? ⟨w.heap.size, 0, none⟩ = some (.int .i64 q) := HX2.out.cell 0
  have f1 : w2.cell? ⟨w.heap.size, 1, none⟩ = some (.int .i64 s) := HX2.out.cell 1
  go_wp2_with fail
  clear f0 f1
  refine (i_tapeOf_Proof q s A1 n1 c1 l w2 ((H1.out.below HB2.out).more z2) (by omega) s0 s1 (fun k hk => (pfGood_nums (goodsK_at HG.out hk)).2)).mono ?_
  rintro e w3 ⟨g, rfl, ho, hb⟩
  have HB3 : Hid (Below w.heap.size w w3) := Lib.hid (HB2.out.trans (hb.mono z2))
  have HO := Lib.hid (ho.widen z2 (Nat.le_refl _))
  clear hb ho
  go_wp2
  go_ret2
  exact ⟨_, ret_vb5 HF.out.1, by rw [HF.out.2]; exact HO.out, HB3.out⟩

set_option maxHeartbeats 8000000 in
theorem X_s_EitherTape (v v1 : Value) (ks : List Int) (l : List Pf) (i s : Int) (w : World) (h : RdIntS w w.heap.size v ks) (h1 : RdProofS w w.heap.size v1 l) (hs : szIntS ks ≤ 1048576) (hs1 : szProofS l ≤ 1048576) :
    Calls Try.prog 28 #[v, v1, .int .i64 i, .int .i64 s] w fun e w' => ∃ g, e = .returned (.tuple #[g, .bool (R_EitherTape_1 ks l i s)]) ∧ OwIntS w' w.heap.size w'.heap.size g (R_EitherTape_0 ks l i s) ∧ Below w.heap.size w w' := by
  obtain ⟨A, n, c, rfl, _, h⟩ := h
  obtain ⟨A1, n1, c1, rfl, _, h1⟩ := h1
  have HL := Lib.hid h.len
  have HL1 := Lib.hid h1.Prooflen
  have hn : n ≤ 1048576 := by have := HL.out; unfold szIntS at hs; omega
  have hn1 : n1 ≤ 1048576 := by have := HL1.out; unfold szProofS at hs1; omega
  have H := Lib.hid h
  have H1 := Lib.hid h1
  clear h h1 hs hs1
  go_enter Try.func28, Try.ntmps28
  go_wp2_with fail
  refine (s_l15Knows A n c ks i s w H.out hn).mono ?_
  rintro e w1 ⟨rfl, hst⟩
  have HB1 : Hid (Below w.heap.size w w1) := Lib.hid (hst.below _)
  have z1 := HB1.out.size
  clear hst
  cases hko : keysB ks && ownB ks i s
  · have HF := etape_no (ks := ks) (l := l) (i := i) (s := s) (by cases a1 : keysB ks <;> cases a2 : ownB ks i s <;> simp_all [etapeB])
    go_wp2
    go_ret2
    exact ⟨_, ret_vb5 HF.out.1, by rw [HF.out.2]; exact OwIntS.nil5 _ _ _, HB1.out⟩
  have hko2 := hko
  simp only [Bool.and_eq_true] at hko2
  obtain ⟨hk, ho⟩ := hko2
  have hk6 := keysB_len hk
  have hown := ownB_at ho
  rw [HL.out] at hk6 hown
  obtain ⟨⟨i0, i1⟩, ⟨s0, s1⟩, _⟩ := hown
  obtain ⟨q, rfl⟩ := Int.eq_ofNat_of_zero_le i0
  by_cases hnn : n1 = n
  rotate_left
  · have e1 : ((n1 : Int) != (n : Int)) = true := by rw [bne_iff_ne]; omega
    have e2 : ¬ (n1 : Int) = (n : Int) := by omega
    clear hko
    have HF := etape_no (ks := ks) (l := l) (i := (q : Int)) (s := s) (by unfold etapeB goodsB; rw [HL.out, HL1.out]; simp [hnn])
    go_wp2
    go_ret2
    exact ⟨_, ret_vb5 HF.out.1, by rw [HF.out.2]; exact OwIntS.nil5 _ _ _, HB1.out⟩
  subst hnn
  have HKO := Lib.hid (And.intro hk ho)
  clear hko hk ho
  obtain ⟨W0, hW0⟩ : ∃ W, Hid (w1.alloc (.cells #[] 3) = W) := ⟨_, Lib.hid rfl⟩
  have HB0 : Hid (Below w.heap.size w W0) := Lib.hid (by rw [← hW0.out]; exact HB1.out.alloc z1 _)
  have HO0 : Hid (W0.ownsRow w.heap.size 3 1 (.slice (some ⟨w1.heap.size, 0, none⟩) 0 0) (2 * 0) (cI (rawL l 0))) := Lib.hid (by rw [← hW0.out]; exact own_wide (own_empty w1 3 1) z1)
  go_wp2_with fail
  rw [hW0.out]
  clear hW0
  go_loopw [10, 11] (fun t j wr => ∃ (k : Nat) (tv : Value), k ≤ n1 ∧ tv = t ∧ j = .int .i64 k ∧ Hid (goodsK ks l k = true) ∧ Hid (wr.ownsRow w.heap.size 3 1 tv (2 * k) (cI (rawL l k))) ∧ Hid (Below w.heap.size w wr)) (fun _ j _ => n1 - (intOf j).toNat)
  case atStart => exact ⟨0, _, Nat.zero_le _, rfl, rfl, Lib.hid rfl, HO0, HB0⟩
  case round =>
    clear HO0 HB0
    obtain ⟨k, tv, hkn, rfl, rfl, HK, HO, HB⟩ := hrel
    by_cases hlt : k < n1
    · obtain ⟨b, p, rfl, hbb, hcq0, HQ⟩ := H.out.intAt hlt
      obtain ⟨a, x, y, z, rfl, hab, hcx0, hcy0, hcz0, HP⟩ := H1.out.ProofAt hlt
      have hba : (a.add (k * 3)).block < w.heap.size := by rw [add_block]; exact hab
      have hcq := (HB.out.cell (p := b.add k) (by rw [add_block]; exact hbb)).trans hcq0
      have hcx := (HB.out.cell (p := a.add (k * 3)) hba).trans hcx0
      have hcy := (HB.out.cell (p := ⟨(a.add (k * 3)).block, (a.add (k * 3)).off + 1, none⟩) hba).trans hcy0
      have hcz := (HB.out.cell (p := ⟨(a.add (k * 3)).block, (a.add (k * 3)).off + 2, none⟩) hba).trans hcz0
      have HCY := Lib.hid hcy0
      have HCZ := Lib.hid hcz0
      clear hcq0 hcx0 hcy0 hcz0
      have j0 : (0 : Int) ≤ (k : Int) := by omega
      have j1 : (k : Int) < (n1 : Int) := by omega
      have HE : Hid (pfGood (ks.getD k 0) (l.getD k (0, 0, 0)) = goodB p x y z) := Lib.hid (by rw [← HQ.out, HP.out]; rfl)
      have HS : Hid (rawL l (k + 1) = rawL l k ++ [y, z]) := Lib.hid (by rw [rawL_succ, HP.out])
      clear HQ HP
      go_wp2
      go_still_tail 8, (by kernel_rfl)
      change wpList _ _ _ _ _ wr.drew
      go_wp2_with fail
      refine (X_s_ProofGood p x y z wr.drew).mono ?_
      rintro e w2 ⟨rfl, hb2⟩
      have hbs : Below wr.heap.size wr w2 := nb14 hb2
      have HB2 : Hid (Below w.heap.size w w2) := Lib.hid (HB.out.trans (hbs.mono HB.out.size))
      have HO2 := Lib.hid (ownsRow_below HO.out hbs)
      clear hb2 hbs HB HO hcq hcx hcy hcz
      cases hg : goodB p x y z
      · have HF := etape_no (ks := ks) (l := l) (i := (q : Int)) (s := s) (by unfold etapeB goodsB; rw [HL.out, goodsK_no hlt (by rw [HE.out, hg])]; simp)
        go_wp2
        go_ret2
        exact ⟨_, ret_vb5 HF.out.1, by rw [HF.out.2]; exact OwIntS.nil5 _ _ _, HB2.out⟩
      · have HK2 : Hid (goodsK ks l (k + 1) = true) := Lib.hid (by unfold goodsK; rw [HK.out, HE.out, hg]; rfl)
        clear HK HE
        have HB := HB2
        have HW := HO2
        clear HB2 HO2
        go_wp2
        refine wp_region_held_drew (S := fun w' => w'.cell? ⟨(a.add (k * 3)).block, (a.add (k * 3)).off + 1, none⟩ = some (.int .i64 y) ∧ w'.cell? ⟨(a.add (k * 3)).block, (a.add (k * 3)).off + 2, none⟩ = some (.int .i64 z)) (by kernel_rfl) ⟨(HB.out.cell (p := ⟨(a.add (k * 3)).block, (a.add (k * 3)).off + 1, none⟩) hba).trans HCY.out, (HB.out.cell (p := ⟨(a.add (k * 3)).block, (a.add (k * 3)).off + 2, none⟩) hba).trans HCZ.out⟩ (fun hHeld => ?_)
        obtain ⟨u0, hu0⟩ : ∃ u0, Hid (w2.drew = u0) := ⟨_, Lib.hid rfl⟩
        rw [hu0.out] at hHeld ⊢
        have zs0 : w2.heap.size = u0.heap.size := by rw [← hu0.out]; rfl
        replace zs0 := Nat.le_of_eq zs0
        have HBl0 : Hid (Below w.heap.size w u0) := Lib.hid (by rw [← hu0.out]; exact HB.out.drew)
        have HW0 : Hid (u0.ownsRow w.heap.size 3 1 tv (2 * k) (cI (rawL l k))) := Lib.hid (by rw [← hu0.out]; exact HW.out)
        clear hu0
        refine wpAnyH_take (i := 0) (oi := { dst := some 41, op := Op.move (Operand.tmp 10), type := 22, pos := "l15_either.go:92", after := #[], guard := none }) (v := ?_) rfl (by kernel_rfl) (by kernel_rfl) (by kernel_rfl) (fun _ _ _ h => h) (Or.inl ⟨by rfl, ?_⟩) hHeld ?_
        rotate_left
        · intro w hSw; obtain ⟨s0, s1⟩ := hSw; (try dsimp only at hSw); go_simp; (try with_reducible rfl)
        try simp only [Act.put, List.setIfInBounds_toArray, List.set_cons_zero, List.set_cons_succ]
        refine wpAnyH_take (i := 1) (oi := { dst := some 42, op := Op.move (Operand.tmp 1), type := 23, pos := "l15_either.go:92", after := #[], guard := none }) (v := ?_) rfl (by kernel_rfl) (by kernel_rfl) (by kernel_rfl) (fun _ _ _ h => h) (Or.inl ⟨by rfl, ?_⟩) hHeld ?_
        rotate_left
        · intro w hSw; obtain ⟨s0, s1⟩ := hSw; (try dsimp only at hSw); go_simp; (try with_reducible rfl)
        try simp only [Act.put, List.setIfInBounds_toArray, List.set_cons_zero, List.set_cons_succ]
        refine wpAnyH_take (i := 2) (oi := { dst := some 43, op := Op.move (Operand.tmp 11), type := 3, pos := "l15_either.go:92", after := #[], guard := none }) (v := ?_) rfl (by kernel_rfl) (by kernel_rfl) (by kernel_rfl) (fun _ _ _ h => h) (Or.inl ⟨by rfl, ?_⟩) hHeld ?_
        rotate_left
        · intro w hSw; obtain ⟨s0, s1⟩ := hSw; (try dsimp only at hSw); go_simp; (try with_reducible rfl)
        try simp only [Act.put, List.setIfInBounds_toArray, List.set_cons_zero, List.set_cons_succ]
        refine wpAnyH_take (i := 3) (oi := { dst := some 44, op := Op.indexAddr 23 (Operand.tmp 42) (Operand.tmp 43), type := 0, pos := "l15_either.go:92", after := #[{ on := 1, ground := Ground.data }, { on := 2, ground := Ground.data }], guard := none }) (v := ?_) rfl (by kernel_rfl) (by kernel_rfl) (by kernel_rfl) (fun _ _ _ h => h) (Or.inl ⟨by rfl, ?_⟩) hHeld ?_
        rotate_left
        · intro w hSw; obtain ⟨s0, s1⟩ := hSw; (try dsimp only at hSw); go_simp; (try with_reducible rfl)
        try simp only [Act.put, List.setIfInBounds_toArray, List.set_cons_zero, List.set_cons_succ]
        refine wpAnyH_take (i := 4) (oi := { dst := some 45, op := Op.fieldAddr 69 (Operand.tmp 44) 1, type := 0, pos := "l15_either.go:92", after := #[{ on := 3, ground := Ground.data }], guard := none }) (v := ?_) rfl (by kernel_rfl) (by kernel_rfl) (by kernel_rfl) (fun _ _ _ h => h) (Or.inl ⟨by rfl, ?_⟩) hHeld ?_
        rotate_left
        · intro w hSw; obtain ⟨s0, s1⟩ := hSw; (try dsimp only at hSw); go_simp; (try with_reducible rfl)
        try simp only [Act.put, List.setIfInBounds_toArray, List.set_cons_zero, List.set_cons_succ]
        refine wpAnyH_take (i := 5) (oi := { dst := some 46, op := Op.load 3 (Operand.tmp 45), type := 3, pos := "l15_either.go:92", after := #[{ on := 4, ground := Ground.data }], guard := none }) (v := ?_) rfl (by kernel_rfl) (by kernel_rfl) (by kernel_rfl) (fun _ _ _ h => h) (Or.inl ⟨by rfl, ?_⟩) hHeld ?_
        rotate_left
        · intro w hSw; obtain ⟨s0, s1⟩ := hSw; (try dsimp only at hSw); go_simp; (try with_reducible rfl)
        try simp only [Act.put, List.setIfInBounds_toArray, List.set_cons_zero, List.set_cons_succ]
        refine wpAnyH_take (i := 6) (oi := { dst := some 47, op := Op.move (Operand.tmp 1), type := 23, pos := "l15_either.go:92", after := #[], guard := none }) (v := ?_) rfl (by kernel_rfl) (by kernel_rfl) (by kernel_rfl) (fun _ _ _ h => h) (Or.inl ⟨by rfl, ?_⟩) hHeld ?_
        rotate_left
        · intro w hSw; obtain ⟨s0, s1⟩ := hSw; (try dsimp only at hSw); go_simp; (try with_reducible rfl)
        try simp only [Act.put, List.setIfInBounds_toArray, List.set_cons_zero, List.set_cons_succ]
        refine wpAnyH_take (i := 7) (oi := { dst := some 48, op := Op.move (Operand.tmp 11), type := 3, pos := "l15_either.go:92", after := #[], guard := none }) (v := ?_) rfl (by kernel_rfl) (by kernel_rfl) (by kernel_rfl) (fun _ _ _ h => h) (Or.inl ⟨by rfl, ?_⟩) hHeld ?_
        rotate_left
        · intro w hSw; obtain ⟨s0, s1⟩ := hSw; (try dsimp only at hSw); go_simp; (try with_reducible rfl)
        try simp only [Act.put, List.setIfInBounds_toArray, List.set_cons_zero, List.set_cons_succ]
        refine wpAnyH_take (i := 8) (oi := { dst := some 49, op := Op.indexAddr 23 (Operand.tmp 47) (Operand.tmp 48), type := 0, pos := "l15_either.go:92", after := #[{ on := 6, ground := Ground.data }, { on := 7, ground := Ground.data }], guard := none }) (v := ?_) rfl (by kernel_rfl) (by kernel_rfl) (by kernel_rfl) (fun _ _ _ h => h) (Or.inl ⟨by rfl, ?_⟩) hHeld ?_
        rotate_left
        · intro w hSw; obtain ⟨s0, s1⟩ := hSw; (try dsimp only at hSw); go_simp; (try with_reducible rfl)
        try simp only [Act.put, List.setIfInBounds_toArray, List.set_cons_zero, List.set_cons_succ]
        refine wpAnyH_take (i := 9) (oi := { dst := some 50, op := Op.fieldAddr 69 (Operand.tmp 49) 2, type := 0, pos := "l15_either.go:92", after := #[{ on := 8, ground := Ground.data }], guard := none }) (v := ?_) rfl (by kernel_rfl) (by kernel_rfl) (by kernel_rfl) (fun _ _ _ h => h) (Or.inl ⟨by rfl, ?_⟩) hHeld ?_
        rotate_left
        · intro w hSw; obtain ⟨s0, s1⟩ := hSw; (try dsimp only at hSw); go_simp; (try with_reducible rfl)
        try simp only [Act.put, List.setIfInBounds_toArray, List.set_cons_zero, List.set_cons_succ]
        refine wpAnyH_take (i := 10) (oi := { dst := some 51, op := Op.load 3 (Operand.tmp 50), type := 3, pos := "l15_either.go:92", after := #[{ on := 9, ground := Ground.data }], guard := none }) (v := ?_) rfl (by kernel_rfl) (by kernel_rfl) (by kernel_rfl) (fun _ _ _ h => h) (Or.inl ⟨by rfl, ?_⟩) hHeld ?_
        rotate_left
        · intro w hSw; obtain ⟨s0, s1⟩ := hSw; (try dsimp only at hSw); go_simp; (try with_reducible rfl)
        try simp only [Act.put, List.setIfInBounds_toArray, List.set_cons_zero, List.set_cons_succ]
        refine wpAnyH_ready (rs := [11]) (by kernel_rfl) (by simp) ?_
        refine AllReadyH.cons (o := { dst := some 52, op := Op.buildSlice 22 2 #[(0, Operand.tmp 46), (1, Operand.tmp 51)], type := 22, pos := "l15_either.go:92", after := #[{ on := 5, ground := Ground.data }, { on := 10, ground := Ground.data }], guard := none }) rfl (fun K hK => ?_) ?_
        · go_simp
          obtain ⟨u1, hw1⟩ : ∃ W, Hid (u0.alloc (.cells #[.int .i64 y, .int .i64 z] 3) = W) := ⟨_, Lib.hid rfl⟩
          rw [hw1.out]
          have zs1 : u0.heap.size < u1.heap.size := by rw [← hw1.out, World.size_alloc]; omega
          have HBl1 : Hid (Below w.heap.size w u1) := Lib.hid (by rw [← hw1.out]; exact HBl0.out.alloc HBl0.out.size _)
          have HX_lit1 : Hid (Bx u1 u0.heap.size #[.int .i64 y, .int .i64 z] 3) := Lib.hid (by rw [← hw1.out]; exact Bx.new _ _ _)
          have hab1 : Below u0.heap.size u0 u1 := by rw [← hw1.out]; exact (Below.refl _ _).alloc (Nat.le_refl _) _
          have HW1 : Hid (u1.ownsRow w.heap.size 3 1 tv (2 * k) (cI (rawL l k))) := Lib.hid (ownsRow_below HW0.out hab1)
          clear hHeld hw1 hab1 HBl0 HW0
          refine hK.out _ _ ⟨((HBl1.out.cell (p := ⟨(a.add (k * 3)).block, (a.add (k * 3)).off + 1, none⟩) hba).trans HCY.out), ((HBl1.out.cell (p := ⟨(a.add (k * 3)).block, (a.add (k * 3)).off + 2, none⟩) hba).trans HCZ.out)⟩ (fun hHeld => ?_)
          clear hK K
          try simp only [Act.put, List.setIfInBounds_toArray, List.set_cons_zero, List.set_cons_succ]
          refine wpAnyH_ready (rs := [12]) (by kernel_rfl) (by simp) ?_
          refine AllReadyH.cons (o := { dst := some 53, op := Op.call { callee := Callee.builtin Builtin.append, args := #[Operand.tmp 41, Operand.tmp 52], argTypes := #[22, 22] }, type := 22, pos := "l15_either.go:92", after := #[{ on := 0, ground := Ground.data }, { on := 11, ground := Ground.data }], guard := none }) rfl (fun K hK => ?_) ?_
          · refine step_append_rd rfl (.tmp 41) (.tmp 52) _ rfl w.heap.size 3 _ 1 8 Try.underlying22 info_int rfl (by decide) tv (2 * k) (cI (rawL l k)) rfl HW1.out _ _ 2 2 (cI [y, z]) rfl (HX_lit1.out.rdI rfl) (cI_one _) (by unfold maxLen; omega) (by omega) HBl1.out.size ?_
            intro v5 u2 hown hgr hat
            have zs2 : u1.heap.size ≤ u2.heap.size := hgr.size
            have HBl2 : Hid (Below w.heap.size w u2) := Lib.hid (below_grown HBl1.out hgr (fun g e => by have := own_ge HW1.out e; omega) HBl1.out.size)
            have HW2 : Hid (u2.ownsRow w.heap.size 3 1 v5 (2 * (k + 1)) (cI (rawL l (k + 1)))) := Lib.hid (by rw [HS.out, cI_app]; exact hown)
            clear hHeld hown hgr hat HBl1 HX_lit1 HW1
            refine hK.out _ _ ⟨((HBl2.out.cell (p := ⟨(a.add (k * 3)).block, (a.add (k * 3)).off + 1, none⟩) hba).trans HCY.out), ((HBl2.out.cell (p := ⟨(a.add (k * 3)).block, (a.add (k * 3)).off + 2, none⟩) hba).trans HCZ.out)⟩ (fun hHeld => ?_)
            clear hK K
            try simp only [Act.put, List.setIfInBounds_toArray, List.set_cons_zero, List.set_cons_succ]
            refine wpAnyH_take (i := 13) (oi := { dst := some 10, op := Op.assign (Operand.tmp 53), type := 22, pos := "l15_either.go:92", after := #[{ on := 12, ground := Ground.data }, { on := 12, ground := Ground.chain }, { on := 0, ground := Ground.phase }, { on := 1, ground := Ground.phase }, { on := 2, ground := Ground.phase }, { on := 3, ground := Ground.phase }, { on := 4, ground := Ground.phase }, { on := 5, ground := Ground.phase }, { on := 6, ground := Ground.phase }, { on := 7, ground := Ground.phase }, { on := 8, ground := Ground.phase }, { on := 9, ground := Ground.phase }, { on := 10, ground := Ground.phase }, { on := 11, ground := Ground.phase }, { on := 12, ground := Ground.phase }], guard := none }) (v := ?_) rfl (by kernel_rfl) (by kernel_rfl) (by kernel_rfl) (fun _ _ _ h => h) (Or.inl ⟨by rfl, ?_⟩) hHeld ?_
            rotate_left
            · intro w hSw; obtain ⟨s0, s1⟩ := hSw; (try dsimp only at hSw); go_simp; (try with_reducible rfl)
            try simp only [Act.put, List.setIfInBounds_toArray, List.set_cons_zero, List.set_cons_succ]
            refine wpAnyH_done (by kernel_rfl) ?_ _
            go_wp2
            go_roundw
            case rel => exact ⟨k + 1, v5, by omega, rfl, by go_num, HK2, HW2, HBl2⟩
            case measure => simp [intOf] <;> omega
          exact AllReadyH.nil
        exact AllReadyH.nil
    · have hkn1 : k = n1 := by omega
      have HK2 : Hid (goodsK ks l n1 = true) := Lib.hid (by rw [← hkn1]; exact HK.out)
      have HF := etape_yes (ks := ks) (l := l) (i := (q : Int)) (s := s) (by unfold etapeB goodsB; rw [HKO.out.1, HKO.out.2, HL.out, HL1.out, HK2.out]; simp)
      rw [Int.toNat_natCast, HL.out] at HF
      obtain ⟨At, ct, htv, hot⟩ := Ow.of_own HO.out
      obtain ⟨g, cs, hAt, hg0, hg1, _, _⟩ := hot.lt (by omega)
      subst htv
      subst hAt
      have HOW : Hid (Ow wr w.heap.size wr.heap.size 3 1 (some ⟨g, 0, none⟩) (2 * n1) ct (cI (rawL l n1))) := Lib.hid (by have := hot; rw [hkn1] at this; exact this)
      clear hot HO HK
      have hq : q < n1 := by omega
      obtain ⟨a, x, y, z, rfl, hab, hcx0, hcy0, hcz0, HP⟩ := H1.out.ProofAt hq
      have hba : (a.add (q * 3)).block < w.heap.size := by rw [add_block]; exact hab
      have hnum := (pfGood_nums (goodsK_at HK2.out hq)).2
      rw [HP.out] at hnum
      have y0 : 0 ≤ y := hnum.1.1
      have y1 : y ≤ 112 := hnum.1.2
      have z0 : 0 ≤ z := hnum.2.1
      have z1 : z ≤ 112 := hnum.2.2
      clear hnum hcx0
      have t2 : 2 * (q : Int) < 2 * (n1 : Int) := by omega
      obtain ⟨u, hu⟩ : ∃ u, Hid ((z - y * s) % 113 = u) := ⟨_, Lib.hid rfl⟩
      have HSET : Hid (((rawL l n1).set (2 * q) u).set (2 * q + 1) 0 = tapeL l q s n1) := Lib.hid (by rw [← hu.out]; have := raw_set l q s hq; rw [HP.out] at this; exact this)
      have HNV : Hid (nonceV s y z = u ∧ makeB s y z = true) := Lib.hid (by
        have hb : makeB s y z = true := by simp only [makeB, Bool.and_eq_true]; exact ⟨(numB_iff s).2 ⟨s0, s1⟩, (numB_iff y).2 ⟨y0, y1⟩, (numB_iff z).2 ⟨z0, z1⟩⟩
        exact ⟨by unfold nonceV; rw [if_pos hb, hu.out], hb⟩)
      have HNC : Hid (∀ W : World, Calls Try.prog 73 #[.int .i64 s, .int .i64 y, .int .i64 z] W fun e w' => e = .returned (.tuple #[.int .i64 u, .bool true]) ∧ Below W.heap.size W w') := Lib.hid fun W => by
        have := X_s_ProofNonce s y z W
        rw [HNV.out.1, HNV.out.2] at this; exact this
      have hl2 := rawL_length l n1
      have t0 : (0 : Int) ≤ 2 * (q : Int) := by omega
      have t1 : 2 * (q : Int) < ((2 * n1 : Nat) : Int) := by omega
      have tw : IntKind.i64.wrap (2 * (q : Int)) = 2 * (q : Int) := IntWalk.i64_in _ (by omega)
      have tn : (2 * (q : Int)).toNat = 2 * q := by omega
      clear HP
      have HW := HOW
      clear HOW
      go_wp2
      refine wp_region_held_drew (S := fun w' => w'.cell? ⟨(a.add (q * 3)).block, (a.add (q * 3)).off + 1, none⟩ = some (.int .i64 y) ∧ w'.cell? ⟨(a.add (q * 3)).block, (a.add (q * 3)).off + 2, none⟩ = some (.int .i64 z)) (by kernel_rfl) ⟨(HB.out.cell (p := ⟨(a.add (q * 3)).block, (a.add (q * 3)).off + 1, none⟩) hba).trans hcy0, (HB.out.cell (p := ⟨(a.add (q * 3)).block, (a.add (q * 3)).off + 2, none⟩) hba).trans hcz0⟩ (fun hHeld => ?_)
      obtain ⟨u0, hu0⟩ : ∃ u0, Hid (wr.drew = u0) := ⟨_, Lib.hid rfl⟩
      rw [hu0.out] at hHeld ⊢
      have zs0 : wr.heap.size = u0.heap.size := by rw [← hu0.out]; rfl
      replace zs0 := Nat.le_of_eq zs0
      have HBl0 : Hid (Below w.heap.size w u0) := Lib.hid (by rw [← hu0.out]; exact HB.out.drew)
      have HW0 : Hid (Ow u0 w.heap.size wr.heap.size 3 1 (some ⟨g, 0, none⟩) (2 * n1) ct (cI (rawL l n1))) := Lib.hid (by rw [← hu0.out]; exact HW.out)
      clear hu0
      refine wpAnyH_take (i := 0) (oi := { dst := some 55, op := Op.move (Operand.tmp 10), type := 22, pos := "l15_either.go:94", after := #[], guard := none }) (v := ?_) rfl (by kernel_rfl) (by kernel_rfl) (by kernel_rfl) (fun _ _ _ h => h) (Or.inl ⟨by rfl, ?_⟩) hHeld ?_
      rotate_left
      · intro w hSw; obtain ⟨s0, s1⟩ := hSw; (try dsimp only at hSw); go_simp; (try with_reducible rfl)
      try simp only [Act.put, List.setIfInBounds_toArray, List.set_cons_zero, List.set_cons_succ]
      refine wpAnyH_take (i := 1) (oi := { dst := some 56, op := Op.move (Operand.tmp 2), type := 3, pos := "l15_either.go:94", after := #[], guard := none }) (v := ?_) rfl (by kernel_rfl) (by kernel_rfl) (by kernel_rfl) (fun _ _ _ h => h) (Or.inl ⟨by rfl, ?_⟩) hHeld ?_
      rotate_left
      · intro w hSw; obtain ⟨s0, s1⟩ := hSw; (try dsimp only at hSw); go_simp; (try with_reducible rfl)
      try simp only [Act.put, List.setIfInBounds_toArray, List.set_cons_zero, List.set_cons_succ]
      refine wpAnyH_take (i := 2) (oi := { dst := some 57, op := Op.binOp BinOp.mul 3 (Operand.const (Value.int IntKind.i64 2)) (Operand.tmp 56) 3, type := 3, pos := "l15_either.go:94", after := #[{ on := 1, ground := Ground.data }], guard := none }) (v := ?_) rfl (by kernel_rfl) (by kernel_rfl) (by kernel_rfl) (fun _ _ _ h => h) (Or.inl ⟨by rfl, ?_⟩) hHeld ?_
      rotate_left
      · intro w hSw; obtain ⟨s0, s1⟩ := hSw; (try dsimp only at hSw); go_simp; (try with_reducible rfl)
      try simp only [Act.put, List.setIfInBounds_toArray, List.set_cons_zero, List.set_cons_succ]
      refine wpAnyH_take (i := 3) (oi := { dst := some 58, op := Op.move (Operand.tmp 3), type := 3, pos := "l15_either.go:94", after := #[], guard := none }) (v := ?_) rfl (by kernel_rfl) (by kernel_rfl) (by kernel_rfl) (fun _ _ _ h => h) (Or.inl ⟨by rfl, ?_⟩) hHeld ?_
      rotate_left
      · intro w hSw; obtain ⟨s0, s1⟩ := hSw; (try dsimp only at hSw); go_simp; (try with_reducible rfl)
      try simp only [Act.put, List.setIfInBounds_toArray, List.set_cons_zero, List.set_cons_succ]
      refine wpAnyH_take (i := 4) (oi := { dst := some 59, op := Op.move (Operand.tmp 1), type := 23, pos := "l15_either.go:94", after := #[], guard := none }) (v := ?_) rfl (by kernel_rfl) (by kernel_rfl) (by kernel_rfl) (fun _ _ _ h => h) (Or.inl ⟨by rfl, ?_⟩) hHeld ?_
      rotate_left
      · intro w hSw; obtain ⟨s0, s1⟩ := hSw; (try dsimp only at hSw); go_simp; (try with_reducible rfl)
      try simp only [Act.put, List.setIfInBounds_toArray, List.set_cons_zero, List.set_cons_succ]
      refine wpAnyH_take (i := 5) (oi := { dst := some 60, op := Op.move (Operand.tmp 2), type := 3, pos := "l15_either.go:94", after := #[], guard := none }) (v := ?_) rfl (by kernel_rfl) (by kernel_rfl) (by kernel_rfl) (fun _ _ _ h => h) (Or.inl ⟨by rfl, ?_⟩) hHeld ?_
      rotate_left
      · intro w hSw; obtain ⟨s0, s1⟩ := hSw; (try dsimp only at hSw); go_simp; (try with_reducible rfl)
      try simp only [Act.put, List.setIfInBounds_toArray, List.set_cons_zero, List.set_cons_succ]
      refine wpAnyH_take (i := 6) (oi := { dst := some 61, op := Op.indexAddr 23 (Operand.tmp 59) (Operand.tmp 60), type := 0, pos := "l15_either.go:94", after := #[{ on := 4, ground := Ground.data }, { on := 5, ground := Ground.data }], guard := none }) (v := ?_) rfl (by kernel_rfl) (by kernel_rfl) (by kernel_rfl) (fun _ _ _ h => h) (Or.inl ⟨by rfl, ?_⟩) hHeld ?_
      rotate_left
      · intro w hSw; obtain ⟨s0, s1⟩ := hSw; (try dsimp only at hSw); go_simp; (try with_reducible rfl)
      try simp only [Act.put, List.setIfInBounds_toArray, List.set_cons_zero, List.set_cons_succ]
      refine wpAnyH_take (i := 7) (oi := { dst := some 62, op := Op.fieldAddr 69 (Operand.tmp 61) 1, type := 0, pos := "l15_either.go:94", after := #[{ on := 6, ground := Ground.data }], guard := none }) (v := ?_) rfl (by kernel_rfl) (by kernel_rfl) (by kernel_rfl) (fun _ _ _ h => h) (Or.inl ⟨by rfl, ?_⟩) hHeld ?_
      rotate_left
      · intro w hSw; obtain ⟨s0, s1⟩ := hSw; (try dsimp only at hSw); go_simp; (try with_reducible rfl)
      try simp only [Act.put, List.setIfInBounds_toArray, List.set_cons_zero, List.set_cons_succ]
      refine wpAnyH_take (i := 8) (oi := { dst := some 63, op := Op.load 3 (Operand.tmp 62), type := 3, pos := "l15_either.go:94", after := #[{ on := 7, ground := Ground.data }], guard := none }) (v := ?_) rfl (by kernel_rfl) (by kernel_rfl) (by kernel_rfl) (fun _ _ _ h => h) (Or.inl ⟨by rfl, ?_⟩) hHeld ?_
      rotate_left
      · intro w hSw; obtain ⟨s0, s1⟩ := hSw; (try dsimp only at hSw); go_simp; (try with_reducible rfl)
      try simp only [Act.put, List.setIfInBounds_toArray, List.set_cons_zero, List.set_cons_succ]
      refine wpAnyH_take (i := 9) (oi := { dst := some 64, op := Op.move (Operand.tmp 1), type := 23, pos := "l15_either.go:94", after := #[], guard := none }) (v := ?_) rfl (by kernel_rfl) (by kernel_rfl) (by kernel_rfl) (fun _ _ _ h => h) (Or.inl ⟨by rfl, ?_⟩) hHeld ?_
      rotate_left
      · intro w hSw; obtain ⟨s0, s1⟩ := hSw; (try dsimp only at hSw); go_simp; (try with_reducible rfl)
      try simp only [Act.put, List.setIfInBounds_toArray, List.set_cons_zero, List.set_cons_succ]
      refine wpAnyH_take (i := 10) (oi := { dst := some 65, op := Op.move (Operand.tmp 2), type := 3, pos := "l15_either.go:94", after := #[], guard := none }) (v := ?_) rfl (by kernel_rfl) (by kernel_rfl) (by kernel_rfl) (fun _ _ _ h => h) (Or.inl ⟨by rfl, ?_⟩) hHeld ?_
      rotate_left
      · intro w hSw; obtain ⟨s0, s1⟩ := hSw; (try dsimp only at hSw); go_simp; (try with_reducible rfl)
      try simp only [Act.put, List.setIfInBounds_toArray, List.set_cons_zero, List.set_cons_succ]
      refine wpAnyH_take (i := 11) (oi := { dst := some 66, op := Op.indexAddr 23 (Operand.tmp 64) (Operand.tmp 65), type := 0, pos := "l15_either.go:94", after := #[{ on := 9, ground := Ground.data }, { on := 10, ground := Ground.data }], guard := none }) (v := ?_) rfl (by kernel_rfl) (by kernel_rfl) (by kernel_rfl) (fun _ _ _ h => h) (Or.inl ⟨by rfl, ?_⟩) hHeld ?_
      rotate_left
      · intro w hSw; obtain ⟨s0, s1⟩ := hSw; (try dsimp only at hSw); go_simp; (try with_reducible rfl)
      try simp only [Act.put, List.setIfInBounds_toArray, List.set_cons_zero, List.set_cons_succ]
      refine wpAnyH_take (i := 12) (oi := { dst := some 67, op := Op.fieldAddr 69 (Operand.tmp 66) 2, type := 0, pos := "l15_either.go:94", after := #[{ on := 11, ground := Ground.data }], guard := none }) (v := ?_) rfl (by kernel_rfl) (by kernel_rfl) (by kernel_rfl) (fun _ _ _ h => h) (Or.inl ⟨by rfl, ?_⟩) hHeld ?_
      rotate_left
      · intro w hSw; obtain ⟨s0, s1⟩ := hSw; (try dsimp only at hSw); go_simp; (try with_reducible rfl)
      try simp only [Act.put, List.setIfInBounds_toArray, List.set_cons_zero, List.set_cons_succ]
      refine wpAnyH_take (i := 13) (oi := { dst := some 68, op := Op.load 3 (Operand.tmp 67), type := 3, pos := "l15_either.go:94", after := #[{ on := 12, ground := Ground.data }], guard := none }) (v := ?_) rfl (by kernel_rfl) (by kernel_rfl) (by kernel_rfl) (fun _ _ _ h => h) (Or.inl ⟨by rfl, ?_⟩) hHeld ?_
      rotate_left
      · intro w hSw; obtain ⟨s0, s1⟩ := hSw; (try dsimp only at hSw); go_simp; (try with_reducible rfl)
      try simp only [Act.put, List.setIfInBounds_toArray, List.set_cons_zero, List.set_cons_succ]
      refine wpAnyH_ready (rs := [14]) (by kernel_rfl) (by simp) ?_
      refine AllReadyH.cons (o := { dst := some 69, op := Op.call { callee := Callee.value (Operand.func 73), args := #[Operand.tmp 58, Operand.tmp 63, Operand.tmp 68], argTypes := #[3, 3, 3] }, type := 90, pos := "l15_either.go:94", after := #[{ on := 3, ground := Ground.data }, { on := 8, ground := Ground.data }, { on := 13, ground := Ground.data }], guard := none }) rfl (fun K hK => ?_) ?_
      · go_simp
        refine (HNC.out u0).mono ?_
        rintro e u1 ⟨rfl, hb_⟩
        have zs1 : u0.heap.size ≤ u1.heap.size := hb_.size
        have HBl1 : Hid (Below w.heap.size w u1) := Lib.hid (HBl0.out.trans (hb_.mono HBl0.out.size))
        have HW1 : Hid (Ow u1 w.heap.size wr.heap.size 3 1 (some ⟨g, 0, none⟩) (2 * n1) ct (cI (rawL l n1))) := Lib.hid (HW0.out.below hb_ (by omega))
        clear hHeld hb_ HBl0 HW0
        (try dsimp only)
        (try go_wp2_with fail)
        refine hK.out _ _ ⟨((HBl1.out.cell (p := ⟨(a.add (q * 3)).block, (a.add (q * 3)).off + 1, none⟩) hba).trans hcy0), ((HBl1.out.cell (p := ⟨(a.add (q * 3)).block, (a.add (q * 3)).off + 2, none⟩) hba).trans hcz0)⟩ (fun hHeld => ?_)
        clear hK K
        try simp only [Act.put, List.setIfInBounds_toArray, List.set_cons_zero, List.set_cons_succ]
        refine wpAnyH_take (i := 15) (oi := { dst := some 54, op := Op.move (Operand.tmp 69), type := 90, pos := "l15_either.go:94", after := #[{ on := 14, ground := Ground.data }], guard := none }) (v := ?_) rfl (by kernel_rfl) (by kernel_rfl) (by kernel_rfl) (fun _ _ _ h => h) (Or.inl ⟨by rfl, ?_⟩) hHeld ?_
        rotate_left
        · intro w hSw; obtain ⟨s0, s1⟩ := hSw; (try dsimp only at hSw); go_simp; (try with_reducible rfl)
        try simp only [Act.put, List.setIfInBounds_toArray, List.set_cons_zero, List.set_cons_succ]
        refine wpAnyH_take (i := 16) (oi := { dst := some 70, op := Op.extract (Operand.tmp 54) 0, type := 3, pos := "l15_either.go:94", after := #[{ on := 15, ground := Ground.data }], guard := none }) (v := ?_) rfl (by kernel_rfl) (by kernel_rfl) (by kernel_rfl) (fun _ _ _ h => h) (Or.inl ⟨by rfl, ?_⟩) hHeld ?_
        rotate_left
        · intro w hSw; obtain ⟨s0, s1⟩ := hSw; (try dsimp only at hSw); go_simp; (try with_reducible rfl)
        try simp only [Act.put, List.setIfInBounds_toArray, List.set_cons_zero, List.set_cons_succ]
        refine wpAnyH_take (i := 17) (oi := { dst := some 71, op := Op.extract (Operand.tmp 54) 1, type := 4, pos := "l15_either.go:94", after := #[{ on := 15, ground := Ground.data }, { on := 19, ground := Ground.gcOnly Departure.lateStores }], guard := none }) (v := ?_) rfl (by kernel_rfl) (by kernel_rfl) (by kernel_rfl) (fun _ _ _ h => h) (Or.inl ⟨by rfl, ?_⟩) hHeld ?_
        rotate_left
        · intro w hSw; obtain ⟨s0, s1⟩ := hSw; (try dsimp only at hSw); go_simp; (try with_reducible rfl)
        try simp only [Act.put, List.setIfInBounds_toArray, List.set_cons_zero, List.set_cons_succ]
        refine wpAnyH_take (i := 18) (oi := { dst := some 72, op := Op.indexAddr 22 (Operand.tmp 55) (Operand.tmp 57), type := 0, pos := "l15_either.go:94", after := #[{ on := 0, ground := Ground.data }, { on := 2, ground := Ground.data }, { on := 0, ground := Ground.phase }, { on := 1, ground := Ground.phase }, { on := 2, ground := Ground.phase }, { on := 3, ground := Ground.phase }, { on := 4, ground := Ground.phase }, { on := 5, ground := Ground.phase }, { on := 6, ground := Ground.phase }, { on := 7, ground := Ground.phase }, { on := 8, ground := Ground.phase }, { on := 9, ground := Ground.phase }, { on := 10, ground := Ground.phase }, { on := 11, ground := Ground.phase }, { on := 12, ground := Ground.phase }, { on := 13, ground := Ground.phase }, { on := 14, ground := Ground.phase }, { on := 15, ground := Ground.phase }, { on := 16, ground := Ground.phase }, { on := 17, ground := Ground.textOnly Departure.lateStores }], guard := none }) (v := ?_) rfl (by kernel_rfl) (by kernel_rfl) (by kernel_rfl) (fun _ _ _ h => h) (Or.inl ⟨by rfl, ?_⟩) hHeld ?_
        rotate_left
        · intro w hSw; obtain ⟨s0, s1⟩ := hSw; (try dsimp only at hSw); go_simp; (try with_reducible rfl)
        try simp only [Act.put, List.setIfInBounds_toArray, List.set_cons_zero, List.set_cons_succ]
        refine wpAnyH_ready (rs := [19]) (by kernel_rfl) (by simp) ?_
        refine AllReadyH.cons (o := { dst := none, op := Op.store 3 (Operand.tmp 72) (Operand.tmp 70), type := 0, pos := "l15_either.go:94", after := #[{ on := 18, ground := Ground.data }, { on := 16, ground := Ground.data }, { on := 14, ground := Ground.chain }, { on := 0, ground := Ground.phase }, { on := 1, ground := Ground.phase }, { on := 2, ground := Ground.phase }, { on := 3, ground := Ground.phase }, { on := 4, ground := Ground.phase }, { on := 5, ground := Ground.phase }, { on := 6, ground := Ground.phase }, { on := 7, ground := Ground.phase }, { on := 8, ground := Ground.phase }, { on := 9, ground := Ground.phase }, { on := 10, ground := Ground.phase }, { on := 11, ground := Ground.phase }, { on := 12, ground := Ground.phase }, { on := 13, ground := Ground.phase }, { on := 14, ground := Ground.phase }, { on := 15, ground := Ground.phase }, { on := 16, ground := Ground.phase }, { on := 17, ground := Ground.textOnly Departure.lateStores }], guard := none }) rfl (fun K hK => ?_) ?_
        · have xc : u1.cell? ⟨g, 2 * q, none⟩ = some _ := HW1.out.cellAt (cI_get _ _ (by omega))
          have xf : u1.frozen? ⟨g, 2 * q, none⟩ = false := HW1.out.free (by omega) (2 * q)
          go_simp
          obtain ⟨u2, hw2⟩ : ∃ W, Hid ((u1.setCell ⟨g, 2 * q, none⟩ (.int .i64 u)) = W) := ⟨_, Lib.hid rfl⟩
          rw [hw2.out]
          have hk2 : Kept (g) (g + 1) u1 u2 := by rw [← hw2.out]; exact (Kept.refl _ _ _).setCell (p := ⟨g, 2 * q, none⟩) (Nat.le_refl _) (Nat.lt_succ_self _) _
          have zs2 : u1.heap.size ≤ u2.heap.size := hk2.size
          have HBl2 : Hid (Below w.heap.size w u2) := Lib.hid (by rw [← hw2.out]; exact HBl1.out.setCell (p := ⟨g, 2 * q, none⟩) (by simp only; omega) _)
          have HW2 : Hid (Ow u2 w.heap.size wr.heap.size 3 1 (some ⟨g, 0, none⟩) (2 * n1) ct (cI ((rawL l n1).set (2 * q) u))) := Lib.hid (by rw [← hw2.out]; have h0 := HW1.out.set (2 * q) (.int .i64 u); rw [cI_set] at h0; exact h0)
          clear hHeld hw2 hk2 xc xf HBl1 HW1
          refine hK.out _ _ ⟨((HBl2.out.cell (p := ⟨(a.add (q * 3)).block, (a.add (q * 3)).off + 1, none⟩) hba).trans hcy0), ((HBl2.out.cell (p := ⟨(a.add (q * 3)).block, (a.add (q * 3)).off + 2, none⟩) hba).trans hcz0)⟩ (fun hHeld => ?_)
          clear hK K
          try simp only [Act.put]
          refine wpAnyH_done (by kernel_rfl) ?_ _
          have HB := HBl2
          have HW := HW2
          have xc : u2.cell? ⟨g, 2 * q + 1, none⟩ = some _ := HW.out.cellAt (cI_get _ _ (by rw [List.length_set]; omega))
          have xf : u2.frozen? ⟨g, 2 * q + 1, none⟩ = false := HW.out.free (by omega) (2 * q + 1)
          have HWZ := Lib.hid (HW.out.set (2 * q + 1) (.int .i64 0))
          rw [cI_set, HSET.out] at HWZ
          have HBZ := Lib.hid (HB.out.setCell (p := ⟨g, 2 * q + 1, none⟩) (by simp only; omega) (.int .i64 0))
          clear HB HW HBl2 HW2
          have s0_ : (0 : Int) ≤ 2 * (q : Int) + 1 := by omega
          have s1_ : 2 * (q : Int) + 1 < ((2 * n1 : Nat) : Int) := by omega
          have s2_ : (2 * (q : Int) + 1).toNat = 2 * q + 1 := by omega
          have s3_ : (2 * (q : Int) + 1) < 2 * (n1 : Int) := by omega
          go_wp2
          go_ret2
          exact ⟨_, ret_vb5 HF.out.1, by rw [HF.out.2]; exact ⟨by rw [tapeL_length]; omega, _, _, _, rfl, HWZ.out.widen (Nat.le_refl _) (by rw [World.size_setCell]; omega)⟩, HBZ.out⟩
        exact AllReadyH.nil
      exact AllReadyH.nil
end Go.Proofs.Ytalokhilodlhfaa
