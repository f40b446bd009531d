/- Chapter 15: EitherMake of the model. Made by tools/gen15/n.py. -/
import Derived.Test.YtdhakbpimbadgaaWalk15f
namespace Go.Proofs.Ytdhakbpimbadgaa
open Go.RowKit
set_option maxRecDepth 100000

theorem emk_no {ks : List Int} {i s ch : Int} {tp : List Int} (h : emakeB ks i s ch tp = false) : Hid (false = R_EitherMake_1 ks i s ch tp ∧ R_EitherMake_0 ks i s ch tp = []) := Lib.hid ⟨h.symm, by unfold R_EitherMake_0; rw [h]; rfl⟩
theorem emk_yes {ks : List Int} {i s ch : Int} {tp : List Int} (h : emakeB ks i s ch tp = true) : Hid (true = R_EitherMake_1 ks i s ch tp ∧ R_EitherMake_0 ks i s ch tp = emakeL ks i.toNat s ch tp) := Lib.hid ⟨h.symm, by unfold R_EitherMake_0; rw [if_pos h]⟩
theorem OwProofS.nil5 (w : World) (lo hi : Nat) : OwProofS w lo hi (.slice none 0 0) [] := ⟨by simp, none, 0, 0, rfl, by simp [cProof], Nat.le_refl _, .inl rfl⟩
theorem numsB_at5 {zs : List Int} (h : numsB zs = true) {k : Nat} (hk : k < zs.length) : 0 ≤ zs.getD k 0 ∧ zs.getD k 0 ≤ 112 := by
  unfold numsB at h
  rw [List.all_eq_true] at h
  have := (numB_iff _).1 (h _ (List.getElem_mem hk))
  rw [List.getD_eq_getElem?_getD, List.getElem?_eq_getElem hk]; simpa using this
theorem add_succ5 (a : Addr) (j : Nat) : a.add (j + 1) = ⟨a.block, a.off + (j + 1), none⟩ := by unfold Addr.add; rw [if_neg (by omega)]
theorem elsB_el {ks : List Int} (h : elsB ks = true) {k : Nat} (hk : k < ks.length) : elB (ks.getD k 0) = true := by
  unfold elsB at h
  rw [List.all_eq_true] at h
  have := h _ (List.getElem_mem hk)
  rwa [← getD_of ks k hk] at this
theorem lit3_at {w : World} {B e : Nat} {u v x : Value} (h : w.heap[B]? = some (.cells #[u, v, x] e (0, 0))) : Rd w (B + 1) 3 (some ⟨B, 0, none⟩) 1 [u, v, x] :=
  ⟨rfl, fun _ => ⟨_, rfl, Nat.lt_succ_self _, fun j z hz => by
    have hj : j < 3 := by have := (List.getElem?_eq_some_iff.1 hz).1; simpa using this
    rw [add_zero_head, cell_of_row w B j _ _ _ h]
    simpa using hz⟩⟩
theorem cProof_one (ps : List Pf) : ∀ u ∈ cProof ps, u.oneCell' = true := by
  intro u hu
  simp only [cProof, List.mem_flatMap] at hu
  obtain ⟨p, _, hp⟩ := hu
  simp only [List.mem_cons, List.not_mem_nil, or_false] at hp
  rcases hp with rfl | rfl | rfl <;> rfl
def othL (ks tp : List Int) (n : Nat) : List Pf := (List.range n).map (otherP ks tp)
theorem othL_succ (ks tp : List Int) (n : Nat) : othL ks tp (n + 1) = othL ks tp n ++ [otherP ks tp n] := by simp [othL, List.range_succ]
theorem cProof_app (a b : List Pf) : cProof (a ++ b) = cProof a ++ cProof b := by
  induction a with
  | nil => rfl
  | cons p t ih => rw [List.cons_append, cProof_cons, cProof_cons, ih]; rfl
theorem s_feign (k c r : Int) (w : World) (he : elB k = true) (c0 : 0 ≤ c) (c1 : c ≤ 112) (r0 : 0 ≤ r) (r1 : r ≤ 112) :
    Calls Try.prog 38 #[.int .i64 k, .int .i64 c, .int .i64 r] w fun e w' => e = .returned (.tuple #[.agg #[.int .i64 (backI 4 k r c), .int .i64 c, .int .i64 r], .bool true]) ∧ Below w.heap.size w w' := by
  have h := X_s_ProofFeign k c r w
  have hb : feignB k c r = true := by simp only [feignB, Bool.and_eq_true]; exact ⟨he, (numB_iff c).2 ⟨c0, c1⟩, (numB_iff r).2 ⟨r0, r1⟩⟩
  unfold feignD at h
  rw [if_pos hb, hb] at h
  exact h
theorem s_make (s n c : Int) (w : World) (s0 : 0 ≤ s) (s1 : s ≤ 112) (n0 : 0 ≤ n) (n1 : n ≤ 112) (c0 : 0 ≤ c) (c1 : c ≤ 112) :
    Calls Try.prog 40 #[.int .i64 s, .int .i64 n, .int .i64 c] w fun e w' => e = .returned (.tuple #[.agg #[.int .i64 (powI 4 n 227), .int .i64 c, .int .i64 ((n + c * s) % 113)], .bool true]) ∧ Below w.heap.size w w' := by
  have h := X_s_ProofMake s n c w
  have hb : makeB s n c = true := by simp only [makeB, Bool.and_eq_true]; exact ⟨(numB_iff s).2 ⟨s0, s1⟩, (numB_iff n).2 ⟨n0, n1⟩, (numB_iff c).2 ⟨c0, c1⟩⟩
  unfold makeD at h
  rw [if_pos hb, hb] at h
  exact h

set_option maxHeartbeats 8000000 in
theorem X_s_EitherMake (v v1 : Value) (ks : List Int) (i s ch : Int) (tp : List Int) (w : World) (h : RdIntS w w.heap.size v ks) (h1 : RdIntS w w.heap.size v1 tp) (hs : szIntS ks ≤ 1048576) (hs1 : szIntS tp ≤ 1048576) :
    Calls Try.prog 10 #[v, .int .i64 i, .int .i64 s, .int .i64 ch, v1] w fun e w' => ∃ g, e = .returned (.tuple #[g, .bool (R_EitherMake_1 ks i s ch tp)]) ∧ OwProofS w' w.heap.size w'.heap.size g (R_EitherMake_0 ks i s ch tp) ∧ Below w.heap.size w w' := by
  obtain ⟨A, n, c, rfl, _, h⟩ := h
  obtain ⟨A1, n1, c1, rfl, _, h1⟩ := h1
  have HL := Lib.hid h.len
  have HL1 := Lib.hid h1.len
  have hn : n ≤ 1048576 := by have := HL.out; unfold szIntS at hs; omega
  have hn1 : n1 ≤ 1048576 := by have := HL1.out; unfold szIntS at hs1; omega
  have H := Lib.hid h
  have H1 := Lib.hid h1
  clear h h1 hs hs1
  go_enter Try.func10, Try.ntmps10
  go_wp2_with fail
  refine (s_l15Knows A n c ks i s w H.out hn).mono ?_
  rintro e w1 ⟨rfl, hst⟩
  have HB1 : Hid (Below w.heap.size w w1) := Lib.hid (hst.below _)
  have z1 := HB1.out.size
  clear hst
  cases hko : keysB ks && ownB ks i s
  · have HF := emk_no (ks := ks) (i := i) (s := s) (ch := ch) (tp := tp) (by cases a1 : keysB ks <;> cases a2 : ownB ks i s <;> simp_all [emakeB])
    go_wp2
    go_ret2
    exact ⟨_, ret_vb5 HF.out.1, by rw [HF.out.2]; exact OwProofS.nil5 _ _ _, HB1.out⟩
  have hko2 := hko
  simp only [Bool.and_eq_true] at hko2
  have HKO := Lib.hid hko2
  clear hko hko2
  go_wp2_with fail
  refine (s_NumOk ch w1).mono ?_
  rintro e w' ⟨rfl, rfl⟩
  cases hc : numB ch
  · have HF := emk_no (ks := ks) (i := i) (s := s) (ch := ch) (tp := tp) (by unfold emakeB; rw [hc]; simp)
    go_wp2
    go_ret2
    exact ⟨_, ret_vb5 HF.out.1, by rw [HF.out.2]; exact OwProofS.nil5 _ _ _, HB1.out⟩
  have tw0 : IntKind.i64.wrap (2 * (n : Int)) = 2 * (n : Int) := IntWalk.i64_in _ (by omega)
  by_cases hnn : n1 = 2 * n
  rotate_left
  · have e1 : ((n1 : Int) != 2 * (n : Int)) = true := by rw [bne_iff_ne]; omega
    have e2 : ¬ (n1 : Int) = 2 * (n : Int) := by omega
    have HF := emk_no (ks := ks) (i := i) (s := s) (ch := ch) (tp := tp) (by unfold emakeB; rw [HL.out, HL1.out]; simp [hnn])
    go_wp2
    go_ret2
    exact ⟨_, ret_vb5 HF.out.1, by rw [HF.out.2]; exact OwProofS.nil5 _ _ _, HB1.out⟩
  subst hnn
  go_wp2_with fail
  refine (s_l1In A1 (2 * n) c1 tp w1 ((H1.out.below HB1.out).more z1) hn1).mono ?_
  rintro e w' ⟨rfl, rfl⟩
  cases ht : numsB tp
  · have HF := emk_no (ks := ks) (i := i) (s := s) (ch := ch) (tp := tp) (by unfold emakeB; rw [ht]; simp)
    go_wp2
    go_ret2
    exact ⟨_, ret_vb5 HF.out.1, by rw [HF.out.2]; exact OwProofS.nil5 _ _ _, HB1.out⟩
  have hch := (numB_iff ch).1 hc
  have HF := emk_yes (ks := ks) (i := i) (s := s) (ch := ch) (tp := tp) (by unfold emakeB; rw [HKO.out.1, HKO.out.2, hc, ht, HL.out, HL1.out]; simp)
  have hk6 := keysB_len HKO.out.1
  have hown := ownB_at HKO.out.2
  rw [HL.out] at hk6 hown
  obtain ⟨⟨i0, i1⟩, ⟨s0, s1⟩, _⟩ := hown
  obtain ⟨q, rfl⟩ := Int.eq_ofNat_of_zero_le i0
  rw [Int.toNat_natCast] at HF
  have HEL : Hid (elsB ks = true) := Lib.hid (by have := HKO.out.1; simp only [keysB, Bool.and_eq_true] at this; exact this.2)
  have HNU := Lib.hid ht
  have hch0 : 0 ≤ ch := hch.1
  have hch1 : ch ≤ 112 := hch.2
  clear hc ht hch HKO
  have nn1 : ¬ (q : Int) < 0 := by omega
  have H0 : Hid ((w1.alloc (.cells #[] 54)).ownsRow w.heap.size 54 3 (.slice (some ⟨w1.heap.size, 0, none⟩) 0 0) 0 (cProof (othL ks tp 0))) := Lib.hid (own_wide (own_empty w1 _ 3) z1)
  have HB0 : Hid (Below w.heap.size w (w1.alloc (.cells #[] 54))) := Lib.hid (HB1.out.alloc z1 _)
  go_wp2
  clear HB1
  go_loopw [12, 13, 14] (fun out rest i wr => ∃ (k : Nat) (Ao : Option Addr) (co : Nat) (re : Int), k ≤ n ∧ i = .int .i64 k ∧ out = .slice Ao k co ∧ rest = .int .i64 re ∧ 0 ≤ re ∧ re ≤ 112 ∧ Hid (re = restK tp q ch k) ∧ Hid (wr.ownsRow w.heap.size 54 3 (.slice Ao k co) k (cProof (othL ks tp k))) ∧ Hid (Below w.heap.size w wr)) (fun _ _ i _ => n - (intOf i).toNat)
  case atStart => exact ⟨0, _, 0, ch, Nat.zero_le _, rfl, rfl, rfl, hch0, hch1, Lib.hid rfl, H0, HB0⟩
  case round =>
    clear H0 HB0
    obtain ⟨k, Ao, co, re, hk, rfl, rfl, rfl, re0, re1, HRE, HO, HBw⟩ := hrel
    by_cases hlt : k < n
    · obtain ⟨J, HJ⟩ : ∃ J, Hid (J = 2 * k) := ⟨_, Lib.hid rfl⟩
      have hJ1 : J + 1 < 2 * n := by have := HJ.out; omega
      obtain ⟨a, kv, rfl, hab, hkv0, HKV⟩ := H.out.intAt hlt
      obtain ⟨b, t0, rfl, hbb, ht0, HT0⟩ := H1.out.intAt (show J < 2 * n by omega)
      obtain ⟨b2, t1, eb, _, ht1, HT1⟩ := H1.out.intAt hJ1
      injection eb with eb
      subst eb
      rw [add_succ5] at ht1
      have hzw := HBw.out.size
      have hba : (a.add k).block < wr.heap.size := by rw [add_block]; omega
      have hbb1 : (b.add J).block < wr.heap.size := by rw [add_block]; omega
      have hbb2 : b.block < wr.heap.size := by omega
      have HKA := Lib.hid ((HBw.out.cell (p := a.add k) (by rw [add_block]; exact hab)).trans hkv0)
      have HTA := Lib.hid ((HBw.out.cell (p := b.add J) (by rw [add_block]; exact hbb)).trans ht0)
      have HTB := Lib.hid ((HBw.out.cell (p := ⟨b.block, b.off + (J + 1), none⟩) hbb).trans ht1)
      have tb0 := numsB_at5 HNU.out (k := J) (by have := HL1.out; omega)
      have tb1 := numsB_at5 HNU.out (k := J + 1) (by have := HL1.out; omega)
      rw [← HT0.out] at tb0
      rw [← HT1.out] at tb1
      obtain ⟨t00, t01⟩ := tb0
      obtain ⟨t10, t11⟩ := tb1
      have hel : elB kv = true := by rw [HKV.out]; exact elsB_el HEL.out (by have := HL.out; omega)
      have HOT : Hid (othL ks tp (k + 1) = othL ks tp k ++ [(backI 4 kv t1 t0, t0, t1)]) := Lib.hid (by rw [othL_succ, otherP, ← HJ.out, ← HKV.out, ← HT0.out, ← HT1.out])
      have HRS : Hid (restK tp q ch (k + 1) = if k = q then re else (re - t0) % 113) := Lib.hid (by rw [restK, ← HJ.out, ← HT0.out, ← HRE.out])
      obtain ⟨bk, hbk⟩ : ∃ v, Hid (backI 4 kv t1 t0 = v) := ⟨_, Lib.hid rfl⟩
      have HFE := fun W => Lib.hid (s_feign kv t0 t1 W hel t00 t01 t10 t11)
      rw [hbk.out] at HOT
      simp only [hbk.out] at HFE
      have iw : IntKind.i64.wrap (2 * (k : Int)) = (J : Int) := by rw [HJ.out]; exact IntWalk.i64_in _ (by omega)
      have iw2 : IntKind.i64.wrap ((J : Int) + 1) = (J : Int) + 1 := IntWalk.i64_in _ (by omega)
      have it2 : ((J : Int) + 1).toNat = J + 1 := by omega
      have i0 : (0 : Int) ≤ (k : Int) := by omega
      have i1 : (k : Int) < (n : Int) := by omega
      have i2 : (0 : Int) ≤ (J : Int) := by omega
      have i3 : (J : Int) < 2 * (n : Int) := by omega
      have i4 : (0 : Int) ≤ (J : Int) + 1 := by omega
      have i5 : (J : Int) + 1 < 2 * (n : Int) := by omega
      have HB : Hid (Below wr.heap.size wr wr) := Lib.hid (Below.refl _ _)
      clear hkv0 ht0 ht1 HKV HT0 HT1 hbk HRE hel hJ1
      go_wp2
      refine wp_region_held_drew (S := fun w' => w'.cell? (a.add k) = some (.int .i64 kv) ∧ w'.cell? (b.add J) = some (.int .i64 t0) ∧ w'.cell? ⟨b.block, b.off + (J + 1), none⟩ = some (.int .i64 t1)) (by kernel_rfl) ⟨(HB.out.cell (p := (a.add k)) hba).trans HKA.out, (HB.out.cell (p := (b.add J)) hbb1).trans HTA.out, (HB.out.cell (p := ⟨b.block, b.off + (J + 1), none⟩) hbb2).trans HTB.out⟩ (fun hHeld => ?_)
      obtain ⟨u0, hu0⟩ : ∃ u0, Hid (wr.drew = u0) := ⟨_, Lib.hid rfl⟩
      rw [hu0.out] at hHeld ⊢
      have zs0 : wr.heap.size = u0.heap.size := by rw [← hu0.out]; rfl
      replace zs0 := Nat.le_of_eq zs0
      have HBl0 : Hid (Below wr.heap.size wr u0) := Lib.hid (by rw [← hu0.out]; exact HB.out.drew)
      clear hu0
      refine wpAnyH_take (i := 0) (oi := { dst := some 49, op := Op.move (Operand.tmp 0), type := 22, pos := "l15_either.go:28", after := #[], guard := none }) (v := ?_) rfl (by kernel_rfl) (by kernel_rfl) (by kernel_rfl) (fun _ _ _ h => h) (Or.inl ⟨by rfl, ?_⟩) hHeld ?_
      rotate_left
      · intro w hSw; obtain ⟨s0, s1, s2⟩ := hSw; (try dsimp only at hSw); go_simp; (try with_reducible rfl)
      try simp only [Act.put, List.setIfInBounds_toArray, List.set_cons_zero, List.set_cons_succ]
      refine wpAnyH_take (i := 1) (oi := { dst := some 50, op := Op.move (Operand.tmp 14), type := 3, pos := "l15_either.go:28", after := #[], guard := none }) (v := ?_) rfl (by kernel_rfl) (by kernel_rfl) (by kernel_rfl) (fun _ _ _ h => h) (Or.inl ⟨by rfl, ?_⟩) hHeld ?_
      rotate_left
      · intro w hSw; obtain ⟨s0, s1, s2⟩ := hSw; (try dsimp only at hSw); go_simp; (try with_reducible rfl)
      try simp only [Act.put, List.setIfInBounds_toArray, List.set_cons_zero, List.set_cons_succ]
      refine wpAnyH_take (i := 2) (oi := { dst := some 51, op := Op.indexAddr 22 (Operand.tmp 49) (Operand.tmp 50), type := 0, pos := "l15_either.go:28", after := #[{ on := 0, ground := Ground.data }, { on := 1, ground := Ground.data }], guard := none }) (v := ?_) rfl (by kernel_rfl) (by kernel_rfl) (by kernel_rfl) (fun _ _ _ h => h) (Or.inl ⟨by rfl, ?_⟩) hHeld ?_
      rotate_left
      · intro w hSw; obtain ⟨s0, s1, s2⟩ := hSw; (try dsimp only at hSw); go_simp; (try with_reducible rfl)
      try simp only [Act.put, List.setIfInBounds_toArray, List.set_cons_zero, List.set_cons_succ]
      refine wpAnyH_take (i := 3) (oi := { dst := some 52, op := Op.load 3 (Operand.tmp 51), type := 3, pos := "l15_either.go:28", after := #[{ on := 2, ground := Ground.data }], guard := none }) (v := ?_) rfl (by kernel_rfl) (by kernel_rfl) (by kernel_rfl) (fun _ _ _ h => h) (Or.inl ⟨by rfl, ?_⟩) hHeld ?_
      rotate_left
      · intro w hSw; obtain ⟨s0, s1, s2⟩ := hSw; (try dsimp only at hSw); go_simp; (try with_reducible rfl)
      try simp only [Act.put, List.setIfInBounds_toArray, List.set_cons_zero, List.set_cons_succ]
      refine wpAnyH_take (i := 4) (oi := { dst := some 53, op := Op.move (Operand.tmp 4), type := 22, pos := "l15_either.go:28", after := #[], guard := none }) (v := ?_) rfl (by kernel_rfl) (by kernel_rfl) (by kernel_rfl) (fun _ _ _ h => h) (Or.inl ⟨by rfl, ?_⟩) hHeld ?_
      rotate_left
      · intro w hSw; obtain ⟨s0, s1, s2⟩ := hSw; (try dsimp only at hSw); go_simp; (try with_reducible rfl)
      try simp only [Act.put, List.setIfInBounds_toArray, List.set_cons_zero, List.set_cons_succ]
      refine wpAnyH_take (i := 5) (oi := { dst := some 54, op := Op.move (Operand.tmp 14), type := 3, pos := "l15_either.go:28", after := #[], guard := none }) (v := ?_) rfl (by kernel_rfl) (by kernel_rfl) (by kernel_rfl) (fun _ _ _ h => h) (Or.inl ⟨by rfl, ?_⟩) hHeld ?_
      rotate_left
      · intro w hSw; obtain ⟨s0, s1, s2⟩ := hSw; (try dsimp only at hSw); go_simp; (try with_reducible rfl)
      try simp only [Act.put, List.setIfInBounds_toArray, List.set_cons_zero, List.set_cons_succ]
      refine wpAnyH_take (i := 6) (oi := { dst := some 55, op := Op.binOp BinOp.mul 3 (Operand.const (Value.int IntKind.i64 2)) (Operand.tmp 54) 3, type := 3, pos := "l15_either.go:28", after := #[{ on := 5, ground := Ground.data }], guard := none }) (v := ?_) rfl (by kernel_rfl) (by kernel_rfl) (by kernel_rfl) (fun _ _ _ h => h) (Or.inl ⟨by rfl, ?_⟩) hHeld ?_
      rotate_left
      · intro w hSw; obtain ⟨s0, s1, s2⟩ := hSw; (try dsimp only at hSw); go_simp; (try with_reducible rfl)
      try simp only [Act.put, List.setIfInBounds_toArray, List.set_cons_zero, List.set_cons_succ]
      refine wpAnyH_take (i := 7) (oi := { dst := some 56, op := Op.indexAddr 22 (Operand.tmp 53) (Operand.tmp 55), type := 0, pos := "l15_either.go:28", after := #[{ on := 4, ground := Ground.data }, { on := 6, ground := Ground.data }], guard := none }) (v := ?_) rfl (by kernel_rfl) (by kernel_rfl) (by kernel_rfl) (fun _ _ _ h => h) (Or.inl ⟨by rfl, ?_⟩) hHeld ?_
      rotate_left
      · intro w hSw; obtain ⟨s0, s1, s2⟩ := hSw; (try dsimp only at hSw); go_simp; (try with_reducible rfl)
      try simp only [Act.put, List.setIfInBounds_toArray, List.set_cons_zero, List.set_cons_succ]
      refine wpAnyH_take (i := 8) (oi := { dst := some 57, op := Op.load 3 (Operand.tmp 56), type := 3, pos := "l15_either.go:28", after := #[{ on := 7, ground := Ground.data }], guard := none }) (v := ?_) rfl (by kernel_rfl) (by kernel_rfl) (by kernel_rfl) (fun _ _ _ h => h) (Or.inl ⟨by rfl, ?_⟩) hHeld ?_
      rotate_left
      · intro w hSw; obtain ⟨s0, s1, s2⟩ := hSw; (try dsimp only at hSw); go_simp; (try with_reducible rfl)
      try simp only [Act.put, List.setIfInBounds_toArray, List.set_cons_zero, List.set_cons_succ]
      refine wpAnyH_take (i := 9) (oi := { dst := some 58, op := Op.move (Operand.tmp 4), type := 22, pos := "l15_either.go:28", after := #[], guard := none }) (v := ?_) rfl (by kernel_rfl) (by kernel_rfl) (by kernel_rfl) (fun _ _ _ h => h) (Or.inl ⟨by rfl, ?_⟩) hHeld ?_
      rotate_left
      · intro w hSw; obtain ⟨s0, s1, s2⟩ := hSw; (try dsimp only at hSw); go_simp; (try with_reducible rfl)
      try simp only [Act.put, List.setIfInBounds_toArray, List.set_cons_zero, List.set_cons_succ]
      refine wpAnyH_take (i := 10) (oi := { dst := some 59, op := Op.move (Operand.tmp 14), type := 3, pos := "l15_either.go:28", after := #[], guard := none }) (v := ?_) rfl (by kernel_rfl) (by kernel_rfl) (by kernel_rfl) (fun _ _ _ h => h) (Or.inl ⟨by rfl, ?_⟩) hHeld ?_
      rotate_left
      · intro w hSw; obtain ⟨s0, s1, s2⟩ := hSw; (try dsimp only at hSw); go_simp; (try with_reducible rfl)
      try simp only [Act.put, List.setIfInBounds_toArray, List.set_cons_zero, List.set_cons_succ]
      refine wpAnyH_take (i := 11) (oi := { dst := some 60, op := Op.binOp BinOp.mul 3 (Operand.const (Value.int IntKind.i64 2)) (Operand.tmp 59) 3, type := 3, pos := "l15_either.go:28", after := #[{ on := 10, ground := Ground.data }], guard := none }) (v := ?_) rfl (by kernel_rfl) (by kernel_rfl) (by kernel_rfl) (fun _ _ _ h => h) (Or.inl ⟨by rfl, ?_⟩) hHeld ?_
      rotate_left
      · intro w hSw; obtain ⟨s0, s1, s2⟩ := hSw; (try dsimp only at hSw); go_simp; (try with_reducible rfl)
      try simp only [Act.put, List.setIfInBounds_toArray, List.set_cons_zero, List.set_cons_succ]
      refine wpAnyH_take (i := 12) (oi := { dst := some 61, op := Op.binOp BinOp.add 3 (Operand.tmp 60) (Operand.const (Value.int IntKind.i64 1)) 3, type := 3, pos := "l15_either.go:28", after := #[{ on := 11, ground := Ground.data }], guard := none }) (v := ?_) rfl (by kernel_rfl) (by kernel_rfl) (by kernel_rfl) (fun _ _ _ h => h) (Or.inl ⟨by rfl, ?_⟩) hHeld ?_
      rotate_left
      · intro w hSw; obtain ⟨s0, s1, s2⟩ := hSw; (try dsimp only at hSw); go_simp; (try with_reducible rfl)
      try simp only [Act.put, List.setIfInBounds_toArray, List.set_cons_zero, List.set_cons_succ]
      refine wpAnyH_take (i := 13) (oi := { dst := some 62, op := Op.indexAddr 22 (Operand.tmp 58) (Operand.tmp 61), type := 0, pos := "l15_either.go:28", after := #[{ on := 9, ground := Ground.data }, { on := 12, ground := Ground.data }], guard := none }) (v := ?_) rfl (by kernel_rfl) (by kernel_rfl) (by kernel_rfl) (fun _ _ _ h => h) (Or.inl ⟨by rfl, ?_⟩) hHeld ?_
      rotate_left
      · intro w hSw; obtain ⟨s0, s1, s2⟩ := hSw; (try dsimp only at hSw); go_simp; (try with_reducible rfl)
      try simp only [Act.put, List.setIfInBounds_toArray, List.set_cons_zero, List.set_cons_succ]
      refine wpAnyH_take (i := 14) (oi := { dst := some 63, op := Op.load 3 (Operand.tmp 62), type := 3, pos := "l15_either.go:28", after := #[{ on := 13, ground := Ground.data }], guard := none }) (v := ?_) rfl (by kernel_rfl) (by kernel_rfl) (by kernel_rfl) (fun _ _ _ h => h) (Or.inl ⟨by rfl, ?_⟩) hHeld ?_
      rotate_left
      · intro w hSw; obtain ⟨s0, s1, s2⟩ := hSw; (try dsimp only at hSw); go_simp; (try with_reducible rfl)
      try simp only [Act.put, List.setIfInBounds_toArray, List.set_cons_zero, List.set_cons_succ]
      refine wpAnyH_ready (rs := [15, 19]) (by kernel_rfl) (by simp) ?_
      refine AllReadyH.cons (o := { dst := some 64, op := Op.call { callee := Callee.value (Operand.func 38), args := #[Operand.tmp 52, Operand.tmp 57, Operand.tmp 63], argTypes := #[3, 3, 3] }, type := 55, pos := "l15_either.go:28", after := #[{ on := 3, ground := Ground.data }, { on := 8, ground := Ground.data }, { on := 14, ground := Ground.data }], guard := none }) rfl (fun K hK => ?_) ?_
      · go_simp
        refine ((HFE u0).out).mono ?_
        rintro e u1 ⟨rfl, hb_⟩
        have zs1 : u0.heap.size ≤ u1.heap.size := hb_.size
        have HBl1 : Hid (Below wr.heap.size wr u1) := Lib.hid (HBl0.out.trans (hb_.mono HBl0.out.size))
        clear hHeld hb_ HBl0
        (try dsimp only)
        (try go_wp2_with fail)
        refine hK.out _ _ ⟨((HBl1.out.cell (p := (a.add k)) hba).trans HKA.out), ((HBl1.out.cell (p := (b.add J)) hbb1).trans HTA.out), ((HBl1.out.cell (p := ⟨b.block, b.off + (J + 1), none⟩) hbb2).trans HTB.out)⟩ (fun hHeld => ?_)
        clear hK K
        try simp only [Act.put, List.setIfInBounds_toArray, List.set_cons_zero, List.set_cons_succ]
        refine wpAnyH_take (i := 16) (oi := { dst := some 48, op := Op.move (Operand.tmp 64), type := 55, pos := "l15_either.go:28", after := #[{ on := 15, ground := Ground.data }], guard := none }) (v := ?_) rfl (by kernel_rfl) (by kernel_rfl) (by kernel_rfl) (fun _ _ _ h => h) (Or.inl ⟨by rfl, ?_⟩) hHeld ?_
        rotate_left
        · intro w hSw; obtain ⟨s0, s1, s2⟩ := hSw; (try dsimp only at hSw); go_simp; (try with_reducible rfl)
        try simp only [Act.put, List.setIfInBounds_toArray, List.set_cons_zero, List.set_cons_succ]
        refine wpAnyH_take (i := 17) (oi := { dst := some 65, op := Op.extract (Operand.tmp 48) 0, type := 54, pos := "l15_either.go:28", after := #[{ on := 16, ground := Ground.data }], guard := none }) (v := ?_) rfl (by kernel_rfl) (by kernel_rfl) (by kernel_rfl) (fun _ _ _ h => h) (Or.inl ⟨by rfl, ?_⟩) hHeld ?_
        rotate_left
        · intro w hSw; obtain ⟨s0, s1, s2⟩ := hSw; (try dsimp only at hSw); go_simp; (try with_reducible rfl)
        try simp only [Act.put, List.setIfInBounds_toArray, List.set_cons_zero, List.set_cons_succ]
        refine wpAnyH_take (i := 18) (oi := { dst := some 66, op := Op.extract (Operand.tmp 48) 1, type := 4, pos := "l15_either.go:28", after := #[{ on := 16, ground := Ground.data }, { on := 20, ground := Ground.gcOnly Departure.lateStores }], guard := none }) (v := ?_) rfl (by kernel_rfl) (by kernel_rfl) (by kernel_rfl) (fun _ _ _ h => h) (Or.inl ⟨by rfl, ?_⟩) hHeld ?_
        rotate_left
        · intro w hSw; obtain ⟨s0, s1, s2⟩ := hSw; (try dsimp only at hSw); go_simp; (try with_reducible rfl)
        try simp only [Act.put, List.setIfInBounds_toArray, List.set_cons_zero, List.set_cons_succ]
        refine wpAnyH_ready (rs := [19]) (by kernel_rfl) (by simp) ?_
        refine AllReadyH.cons (o := { dst := some 15, op := Op.alloc 54, type := 0, pos := "l15_either.go:28", after := #[], guard := none }) rfl (fun K hK => ?_) ?_
        · go_simp
          obtain ⟨u2, hw2⟩ : ∃ W, Hid (u1.alloc (.cells #[.int .i64 0, .int .i64 0, .int .i64 0] 54) = W) := ⟨_, Lib.hid rfl⟩
          rw [hw2.out]
          have zs2 : u1.heap.size < u2.heap.size := by rw [← hw2.out, World.size_alloc]; omega
          have HBl2 : Hid (Below wr.heap.size wr u2) := Lib.hid (by rw [← hw2.out]; exact HBl1.out.alloc HBl1.out.size _)
          have HX_b2 : Hid (Bx u2 u1.heap.size #[.int .i64 0, .int .i64 0, .int .i64 0] 54) := Lib.hid (by rw [← hw2.out]; exact Bx.new _ _ _)
          have hab2 : Below u1.heap.size u1 u2 := by rw [← hw2.out]; exact (Below.refl _ _).alloc (Nat.le_refl _) _
          clear hHeld hw2 hab2 HBl1
          refine hK.out _ _ ⟨((HBl2.out.cell (p := (a.add k)) hba).trans HKA.out), ((HBl2.out.cell (p := (b.add J)) hbb1).trans HTA.out), ((HBl2.out.cell (p := ⟨b.block, b.off + (J + 1), none⟩) hbb2).trans HTB.out)⟩ (fun hHeld => ?_)
          clear hK K
          try simp only [Act.put, List.setIfInBounds_toArray, List.set_cons_zero, List.set_cons_succ]
          refine wpAnyH_ready (rs := [20]) (by kernel_rfl) (by simp) ?_
          refine AllReadyH.cons (o := { dst := none, op := Op.store 54 (Operand.tmp 15) (Operand.tmp 65), type := 0, pos := "l15_either.go:28", after := #[{ on := 19, ground := Ground.data }, { on := 17, ground := Ground.data }, { on := 15, ground := Ground.chain }, { on := 0, ground := Ground.phase }, { on := 1, ground := Ground.phase }, { on := 2, ground := Ground.phase }, { on := 3, ground := Ground.phase }, { on := 4, ground := Ground.phase }, { on := 5, ground := Ground.phase }, { on := 6, ground := Ground.phase }, { on := 7, ground := Ground.phase }, { on := 8, ground := Ground.phase }, { on := 9, ground := Ground.phase }, { on := 10, ground := Ground.phase }, { on := 11, ground := Ground.phase }, { on := 12, ground := Ground.phase }, { on := 13, ground := Ground.phase }, { on := 14, ground := Ground.phase }, { on := 15, ground := Ground.phase }, { on := 16, ground := Ground.phase }, { on := 17, ground := Ground.phase }, { on := 18, ground := Ground.textOnly Departure.lateStores }, { on := 19, ground := Ground.phase }], guard := none }) rfl (fun K hK => ?_) ?_
          · have xc0 : u2.cell? ⟨u1.heap.size, 0, none⟩ = some (.int .i64 0) := HX_b2.out.cell 0
            have xf0 : u2.frozen? ⟨u1.heap.size, 0, none⟩ = false := HX_b2.out.free 0
            have xc1 : u2.cell? ⟨u1.heap.size, 1, none⟩ = some (.int .i64 0) := HX_b2.out.cell 1
            have xf1 : u2.frozen? ⟨u1.heap.size, 1, none⟩ = false := HX_b2.out.free 1
            have xc2 : u2.cell? ⟨u1.heap.size, 2, none⟩ = some (.int .i64 0) := HX_b2.out.cell 2
            have xf2 : u2.frozen? ⟨u1.heap.size, 2, none⟩ = false := HX_b2.out.free 2
            go_simp
            obtain ⟨u3, hw3⟩ : ∃ W, Hid ((((u2.setCell ⟨u1.heap.size, 0, none⟩ (.int .i64 bk)).setCell ⟨u1.heap.size, 1, none⟩ (.int .i64 t0)).setCell ⟨u1.heap.size, 2, none⟩ (.int .i64 t1)) = W) := ⟨_, Lib.hid rfl⟩
            rw [hw3.out]
            have hk3 : Kept (u1.heap.size) (u1.heap.size + 1) u2 u3 := by rw [← hw3.out]; exact (((Kept.refl _ _ _).setCell (p := ⟨u1.heap.size, 0, none⟩) (Nat.le_refl _) (Nat.lt_succ_self _) _).setCell (p := ⟨u1.heap.size, 1, none⟩) (Nat.le_refl _) (Nat.lt_succ_self _) _).setCell (p := ⟨u1.heap.size, 2, none⟩) (Nat.le_refl _) (Nat.lt_succ_self _) _
            have zs3 : u2.heap.size ≤ u3.heap.size := hk3.size
            have hlo3 := HBl2.out.size
            have HBl3 : Hid (Below wr.heap.size wr u3) := Lib.hid (HBl2.out.trans ((hk3.to_below (by have := HX_b2.out.lt; omega)).mono (by omega)))
            have HX_b3 : Hid (Bx u3 u1.heap.size #[.int .i64 bk, .int .i64 t0, .int .i64 t1] 54) := Lib.hid (by have := (((HX_b2.out).set 0 (.int .i64 bk)).set 1 (.int .i64 t0)).set 2 (.int .i64 t1); rw [hw3.out] at this; exact this)
            clear hHeld hw3 hk3 hlo3 xc0 xf0 xc1 xf1 xc2 xf2 HBl2 HX_b2
            refine hK.out _ _ ⟨((HBl3.out.cell (p := (a.add k)) hba).trans HKA.out), ((HBl3.out.cell (p := (b.add J)) hbb1).trans HTA.out), ((HBl3.out.cell (p := ⟨b.block, b.off + (J + 1), none⟩) hbb2).trans HTB.out)⟩ (fun hHeld => ?_)
            clear hK K
            try simp only [Act.put]
            refine wpAnyH_take (i := 21) (oi := { dst := some 16, op := Op.assign (Operand.tmp 66), type := 4, pos := "l15_either.go:28", after := #[{ on := 18, ground := Ground.data }, { on := 20, ground := Ground.chain }, { on := 0, ground := Ground.phase }, { on := 1, ground := Ground.phase }, { on := 2, ground := Ground.phase }, { on := 3, ground := Ground.phase }, { on := 4, ground := Ground.phase }, { on := 5, ground := Ground.phase }, { on := 6, ground := Ground.phase }, { on := 7, ground := Ground.phase }, { on := 8, ground := Ground.phase }, { on := 9, ground := Ground.phase }, { on := 10, ground := Ground.phase }, { on := 11, ground := Ground.phase }, { on := 12, ground := Ground.phase }, { on := 13, ground := Ground.phase }, { on := 14, ground := Ground.phase }, { on := 15, ground := Ground.phase }, { on := 16, ground := Ground.phase }, { on := 17, ground := Ground.phase }, { on := 18, ground := Ground.phase }, { on := 19, ground := Ground.phase }, { on := 20, ground := Ground.phase }], guard := none }) (v := ?_) rfl (by kernel_rfl) (by kernel_rfl) (by kernel_rfl) (fun _ _ _ h => h) (Or.inl ⟨by rfl, ?_⟩) hHeld ?_
            rotate_left
            · intro w hSw; obtain ⟨s0, s1, s2⟩ := hSw; (try dsimp only at hSw); go_simp; (try with_reducible rfl)
            try simp only [Act.put, List.setIfInBounds_toArray, List.set_cons_zero, List.set_cons_succ]
            refine wpAnyH_done (by kernel_rfl) ?_ _
            have HBu : Hid (Below w.heap.size w u3) := Lib.hid (HBw.out.trans (HBl3.out.mono hzw))
            have HOu := Lib.hid (ownsRow_below HO.out HBl3.out)
            have x0 : u3.cell? ⟨u1.heap.size, 0, none⟩ = some (.int .i64 bk) := HX_b3.out.cell 0
            have x1 : u3.cell? ⟨u1.heap.size, 1, none⟩ = some (.int .i64 t0) := HX_b3.out.cell 1
            have x2 : u3.cell? ⟨u1.heap.size, 2, none⟩ = some (.int .i64 t1) := HX_b3.out.cell 2
            have hta := (HBl3.out.cell (p := b.add J) hbb1).trans HTA.out
            have HOl := Lib.hid (HOu.out.alloc (.cells #[.int .i64 bk, .int .i64 t0, .int .i64 t1] 54))
            have HLP : Hid (Rd (u3.alloc (.cells #[.int .i64 bk, .int .i64 t0, .int .i64 t1] 54)) (u3.heap.size + 1) 3 (some ⟨u3.heap.size, 0, none⟩) 1 (cProof [(bk, t0, t1)])) := Lib.hid (lit3_at (heap_alloc_new _ _))
            clear HBl3 HX_b3 HO HBw
            by_cases hkq : k = q
            · have e1 : ((k : Int) != (q : Int)) = false := by rw [hkq]; simp
              have e2 : (k : Int) = (q : Int) := by omega
              rw [if_pos hkq] at HRS
              have HRF : Hid (re = restK tp q ch (k + 1)) := Lib.hid HRS.out.symm
              clear hkq
              go_wp2_with (at_builtin
                           refine wpList_append_rd rfl (.tmp 77) (.tmp 79) _ rfl w.heap.size 54 _ 3 24 Try.underlying23 info_Proof rfl (by decide) (.slice Ao k co) k (cProof (othL ks tp k)) rfl HOl.out _ _ 1 1 (cProof [(bk, t0, t1)]) rfl HLP.out (cProof_one _) (by unfold maxLen; omega) (by omega) (by have := HBu.out.size; simp; omega) ?_
                           intro v6 w6 hown hgr hat
                           obtain ⟨A6, c6, hv6, ho6⟩ := Ow.of_own hown
                           subst hv6
                           have HO6 : Hid (w6.ownsRow w.heap.size 54 3 (.slice A6 (k + 1) c6) (k + 1) (cProof (othL ks tp (k + 1)))) := Lib.hid (by rw [HOT.out, cProof_app]; exact hown)
                           have HB6 : Hid (Below w.heap.size w w6) := Lib.hid (below_grown (HBu.out.alloc HBu.out.size _) hgr (fun g e => own_ge HOu.out e) (by have := HBu.out.size; simp; omega))
                           clear hown hgr hat ho6)
              go_roundw
              case rel => exact ⟨k + 1, A6, c6, re, by omega, by go_num, rfl, rfl, re0, re1, HRF, HO6, HB6⟩
              case measure => simp [intOf] <;> omega
            · have e2 : ¬ (k : Int) = (q : Int) := by omega
              have e1 : ((k : Int) != (q : Int)) = true := by rw [bne_iff_ne]; exact e2
              rw [if_neg hkq] at HRS
              have HRF : Hid ((re - t0) % 113 = restK tp q ch (k + 1)) := Lib.hid HRS.out.symm
              clear hkq
              go_wp2_with fail
              refine (s_l1Sub re t0 _ re0 re1 t00 t01).mono ?_
              rintro e w' ⟨rfl, rfl⟩
              go_wp2_with (at_builtin
                           refine wpList_append_rd rfl (.tmp 77) (.tmp 79) _ rfl w.heap.size 54 _ 3 24 Try.underlying23 info_Proof rfl (by decide) (.slice Ao k co) k (cProof (othL ks tp k)) rfl HOl.out _ _ 1 1 (cProof [(bk, t0, t1)]) rfl HLP.out (cProof_one _) (by unfold maxLen; omega) (by omega) (by have := HBu.out.size; simp; omega) ?_
                           intro v6 w6 hown hgr hat
                           obtain ⟨A6, c6, hv6, ho6⟩ := Ow.of_own hown
                           subst hv6
                           have HO6 : Hid (w6.ownsRow w.heap.size 54 3 (.slice A6 (k + 1) c6) (k + 1) (cProof (othL ks tp (k + 1)))) := Lib.hid (by rw [HOT.out, cProof_app]; exact hown)
                           have HB6 : Hid (Below w.heap.size w w6) := Lib.hid (below_grown (HBu.out.alloc HBu.out.size _) hgr (fun g e => own_ge HOu.out e) (by have := HBu.out.size; simp; omega))
                           clear hown hgr hat ho6)
              go_roundw
              case rel => exact ⟨k + 1, A6, c6, (re - t0) % 113, by omega, by go_num, rfl, rfl, by omega, by omega, HRF, HO6, HB6⟩
              case measure => simp [intOf] <;> omega
          exact AllReadyH.nil
        exact AllReadyH.nil
      refine AllReadyH.cons (o := { dst := some 15, op := Op.alloc 54, type := 0, pos := "l15_either.go:28", after := #[], guard := none }) rfl (fun K hK => ?_) ?_
      · go_simp
        obtain ⟨u1, hw1⟩ : ∃ W, Hid (u0.alloc (.cells #[.int .i64 0, .int .i64 0, .int .i64 0] 54) = W) := ⟨_, Lib.hid rfl⟩
        rw [hw1.out]
        have zs1 : u0.heap.size < u1.heap.size := by rw [← hw1.out, World.size_alloc]; omega
        have HBl1 : Hid (Below wr.heap.size wr u1) := Lib.hid (by rw [← hw1.out]; exact HBl0.out.alloc HBl0.out.size _)
        have HX_b1 : Hid (Bx u1 u0.heap.size #[.int .i64 0, .int .i64 0, .int .i64 0] 54) := Lib.hid (by rw [← hw1.out]; exact Bx.new _ _ _)
        have hab1 : Below u0.heap.size u0 u1 := by rw [← hw1.out]; exact (Below.refl _ _).alloc (Nat.le_refl _) _
        clear hHeld hw1 hab1 HBl0
        refine hK.out _ _ ⟨((HBl1.out.cell (p := (a.add k)) hba).trans HKA.out), ((HBl1.out.cell (p := (b.add J)) hbb1).trans HTA.out), ((HBl1.out.cell (p := ⟨b.block, b.off + (J + 1), none⟩) hbb2).trans HTB.out)⟩ (fun hHeld => ?_)
        clear hK K
        try simp only [Act.put, List.setIfInBounds_toArray, List.set_cons_zero, List.set_cons_succ]
        refine wpAnyH_ready (rs := [15]) (by kernel_rfl) (by simp) ?_
        refine AllReadyH.cons (o := { dst := some 64, op := Op.call { callee := Callee.value (Operand.func 38), args := #[Operand.tmp 52, Operand.tmp 57, Operand.tmp 63], argTypes := #[3, 3, 3] }, type := 55, pos := "l15_either.go:28", after := #[{ on := 3, ground := Ground.data }, { on := 8, ground := Ground.data }, { on := 14, ground := Ground.data }], guard := none }) rfl (fun K hK => ?_) ?_
        · go_simp
          refine ((HFE u1).out).mono ?_
          rintro e u2 ⟨rfl, hb_⟩
          have zs2 : u1.heap.size ≤ u2.heap.size := hb_.size
          have HBl2 : Hid (Below wr.heap.size wr u2) := Lib.hid (HBl1.out.trans (hb_.mono HBl1.out.size))
          have HX_b2 : Hid (Bx u2 u0.heap.size #[.int .i64 0, .int .i64 0, .int .i64 0] 54) := Lib.hid (HX_b1.out.below hb_ HX_b1.out.lt)
          clear hHeld hb_ HBl1 HX_b1
          (try dsimp only)
          (try go_wp2_with fail)
          refine hK.out _ _ ⟨((HBl2.out.cell (p := (a.add k)) hba).trans HKA.out), ((HBl2.out.cell (p := (b.add J)) hbb1).trans HTA.out), ((HBl2.out.cell (p := ⟨b.block, b.off + (J + 1), none⟩) hbb2).trans HTB.out)⟩ (fun hHeld => ?_)
          clear hK K
          try simp only [Act.put, List.setIfInBounds_toArray, List.set_cons_zero, List.set_cons_succ]
          refine wpAnyH_take (i := 16) (oi := { dst := some 48, op := Op.move (Operand.tmp 64), type := 55, pos := "l15_either.go:28", after := #[{ on := 15, ground := Ground.data }], guard := none }) (v := ?_) rfl (by kernel_rfl) (by kernel_rfl) (by kernel_rfl) (fun _ _ _ h => h) (Or.inl ⟨by rfl, ?_⟩) hHeld ?_
          rotate_left
          · intro w hSw; obtain ⟨s0, s1, s2⟩ := hSw; (try dsimp only at hSw); go_simp; (try with_reducible rfl)
          try simp only [Act.put, List.setIfInBounds_toArray, List.set_cons_zero, List.set_cons_succ]
          refine wpAnyH_take (i := 17) (oi := { dst := some 65, op := Op.extract (Operand.tmp 48) 0, type := 54, pos := "l15_either.go:28", after := #[{ on := 16, ground := Ground.data }], guard := none }) (v := ?_) rfl (by kernel_rfl) (by kernel_rfl) (by kernel_rfl) (fun _ _ _ h => h) (Or.inl ⟨by rfl, ?_⟩) hHeld ?_
          rotate_left
          · intro w hSw; obtain ⟨s0, s1, s2⟩ := hSw; (try dsimp only at hSw); go_simp; (try with_reducible rfl)
          try simp only [Act.put, List.setIfInBounds_toArray, List.set_cons_zero, List.set_cons_succ]
          refine wpAnyH_take (i := 18) (oi := { dst := some 66, op := Op.extract (Operand.tmp 48) 1, type := 4, pos := "l15_either.go:28", after := #[{ on := 16, ground := Ground.data }, { on := 20, ground := Ground.gcOnly Departure.lateStores }], guard := none }) (v := ?_) rfl (by kernel_rfl) (by kernel_rfl) (by kernel_rfl) (fun _ _ _ h => h) (Or.inl ⟨by rfl, ?_⟩) hHeld ?_
          rotate_left
          · intro w hSw; obtain ⟨s0, s1, s2⟩ := hSw; (try dsimp only at hSw); go_simp; (try with_reducible rfl)
          try simp only [Act.put, List.setIfInBounds_toArray, List.set_cons_zero, List.set_cons_succ]
          refine wpAnyH_ready (rs := [20]) (by kernel_rfl) (by simp) ?_
          refine AllReadyH.cons (o := { dst := none, op := Op.store 54 (Operand.tmp 15) (Operand.tmp 65), type := 0, pos := "l15_either.go:28", after := #[{ on := 19, ground := Ground.data }, { on := 17, ground := Ground.data }, { on := 15, ground := Ground.chain }, { on := 0, ground := Ground.phase }, { on := 1, ground := Ground.phase }, { on := 2, ground := Ground.phase }, { on := 3, ground := Ground.phase }, { on := 4, ground := Ground.phase }, { on := 5, ground := Ground.phase }, { on := 6, ground := Ground.phase }, { on := 7, ground := Ground.phase }, { on := 8, ground := Ground.phase }, { on := 9, ground := Ground.phase }, { on := 10, ground := Ground.phase }, { on := 11, ground := Ground.phase }, { on := 12, ground := Ground.phase }, { on := 13, ground := Ground.phase }, { on := 14, ground := Ground.phase }, { on := 15, ground := Ground.phase }, { on := 16, ground := Ground.phase }, { on := 17, ground := Ground.phase }, { on := 18, ground := Ground.textOnly Departure.lateStores }, { on := 19, ground := Ground.phase }], guard := none }) rfl (fun K hK => ?_) ?_
          · have xc0 : u2.cell? ⟨u0.heap.size, 0, none⟩ = some (.int .i64 0) := HX_b2.out.cell 0
            have xf0 : u2.frozen? ⟨u0.heap.size, 0, none⟩ = false := HX_b2.out.free 0
            have xc1 : u2.cell? ⟨u0.heap.size, 1, none⟩ = some (.int .i64 0) := HX_b2.out.cell 1
            have xf1 : u2.frozen? ⟨u0.heap.size, 1, none⟩ = false := HX_b2.out.free 1
            have xc2 : u2.cell? ⟨u0.heap.size, 2, none⟩ = some (.int .i64 0) := HX_b2.out.cell 2
            have xf2 : u2.frozen? ⟨u0.heap.size, 2, none⟩ = false := HX_b2.out.free 2
            go_simp
            obtain ⟨u3, hw3⟩ : ∃ W, Hid ((((u2.setCell ⟨u0.heap.size, 0, none⟩ (.int .i64 bk)).setCell ⟨u0.heap.size, 1, none⟩ (.int .i64 t0)).setCell ⟨u0.heap.size, 2, none⟩ (.int .i64 t1)) = W) := ⟨_, Lib.hid rfl⟩
            rw [hw3.out]
            have hk3 : Kept (u0.heap.size) (u0.heap.size + 1) u2 u3 := by rw [← hw3.out]; exact (((Kept.refl _ _ _).setCell (p := ⟨u0.heap.size, 0, none⟩) (Nat.le_refl _) (Nat.lt_succ_self _) _).setCell (p := ⟨u0.heap.size, 1, none⟩) (Nat.le_refl _) (Nat.lt_succ_self _) _).setCell (p := ⟨u0.heap.size, 2, none⟩) (Nat.le_refl _) (Nat.lt_succ_self _) _
            have zs3 : u2.heap.size ≤ u3.heap.size := hk3.size
            have hlo3 := HBl2.out.size
            have HBl3 : Hid (Below wr.heap.size wr u3) := Lib.hid (HBl2.out.trans ((hk3.to_below (by have := HX_b2.out.lt; omega)).mono (by omega)))
            have HX_b3 : Hid (Bx u3 u0.heap.size #[.int .i64 bk, .int .i64 t0, .int .i64 t1] 54) := Lib.hid (by have := (((HX_b2.out).set 0 (.int .i64 bk)).set 1 (.int .i64 t0)).set 2 (.int .i64 t1); rw [hw3.out] at this; exact this)
            clear hHeld hw3 hk3 hlo3 xc0 xf0 xc1 xf1 xc2 xf2 HBl2 HX_b2
            refine hK.out _ _ ⟨((HBl3.out.cell (p := (a.add k)) hba).trans HKA.out), ((HBl3.out.cell (p := (b.add J)) hbb1).trans HTA.out), ((HBl3.out.cell (p := ⟨b.block, b.off + (J + 1), none⟩) hbb2).trans HTB.out)⟩ (fun hHeld => ?_)
            clear hK K
            try simp only [Act.put]
            refine wpAnyH_take (i := 21) (oi := { dst := some 16, op := Op.assign (Operand.tmp 66), type := 4, pos := "l15_either.go:28", after := #[{ on := 18, ground := Ground.data }, { on := 20, ground := Ground.chain }, { on := 0, ground := Ground.phase }, { on := 1, ground := Ground.phase }, { on := 2, ground := Ground.phase }, { on := 3, ground := Ground.phase }, { on := 4, ground := Ground.phase }, { on := 5, ground := Ground.phase }, { on := 6, ground := Ground.phase }, { on := 7, ground := Ground.phase }, { on := 8, ground := Ground.phase }, { on := 9, ground := Ground.phase }, { on := 10, ground := Ground.phase }, { on := 11, ground := Ground.phase }, { on := 12, ground := Ground.phase }, { on := 13, ground := Ground.phase }, { on := 14, ground := Ground.phase }, { on := 15, ground := Ground.phase }, { on := 16, ground := Ground.phase }, { on := 17, ground := Ground.phase }, { on := 18, ground := Ground.phase }, { on := 19, ground := Ground.phase }, { on := 20, ground := Ground.phase }], guard := none }) (v := ?_) rfl (by kernel_rfl) (by kernel_rfl) (by kernel_rfl) (fun _ _ _ h => h) (Or.inl ⟨by rfl, ?_⟩) hHeld ?_
            rotate_left
            · intro w hSw; obtain ⟨s0, s1, s2⟩ := hSw; (try dsimp only at hSw); go_simp; (try with_reducible rfl)
            try simp only [Act.put, List.setIfInBounds_toArray, List.set_cons_zero, List.set_cons_succ]
            refine wpAnyH_done (by kernel_rfl) ?_ _
            have HBu : Hid (Below w.heap.size w u3) := Lib.hid (HBw.out.trans (HBl3.out.mono hzw))
            have HOu := Lib.hid (ownsRow_below HO.out HBl3.out)
            have x0 : u3.cell? ⟨u0.heap.size, 0, none⟩ = some (.int .i64 bk) := HX_b3.out.cell 0
            have x1 : u3.cell? ⟨u0.heap.size, 1, none⟩ = some (.int .i64 t0) := HX_b3.out.cell 1
            have x2 : u3.cell? ⟨u0.heap.size, 2, none⟩ = some (.int .i64 t1) := HX_b3.out.cell 2
            have hta := (HBl3.out.cell (p := b.add J) hbb1).trans HTA.out
            have HOl := Lib.hid (HOu.out.alloc (.cells #[.int .i64 bk, .int .i64 t0, .int .i64 t1] 54))
            have HLP : Hid (Rd (u3.alloc (.cells #[.int .i64 bk, .int .i64 t0, .int .i64 t1] 54)) (u3.heap.size + 1) 3 (some ⟨u3.heap.size, 0, none⟩) 1 (cProof [(bk, t0, t1)])) := Lib.hid (lit3_at (heap_alloc_new _ _))
            clear HBl3 HX_b3 HO HBw
            by_cases hkq : k = q
            · have e1 : ((k : Int) != (q : Int)) = false := by rw [hkq]; simp
              have e2 : (k : Int) = (q : Int) := by omega
              rw [if_pos hkq] at HRS
              have HRF : Hid (re = restK tp q ch (k + 1)) := Lib.hid HRS.out.symm
              clear hkq
              go_wp2_with (at_builtin
                           refine wpList_append_rd rfl (.tmp 77) (.tmp 79) _ rfl w.heap.size 54 _ 3 24 Try.underlying23 info_Proof rfl (by decide) (.slice Ao k co) k (cProof (othL ks tp k)) rfl HOl.out _ _ 1 1 (cProof [(bk, t0, t1)]) rfl HLP.out (cProof_one _) (by unfold maxLen; omega) (by omega) (by have := HBu.out.size; simp; omega) ?_
                           intro v6 w6 hown hgr hat
                           obtain ⟨A6, c6, hv6, ho6⟩ := Ow.of_own hown
                           subst hv6
                           have HO6 : Hid (w6.ownsRow w.heap.size 54 3 (.slice A6 (k + 1) c6) (k + 1) (cProof (othL ks tp (k + 1)))) := Lib.hid (by rw [HOT.out, cProof_app]; exact hown)
                           have HB6 : Hid (Below w.heap.size w w6) := Lib.hid (below_grown (HBu.out.alloc HBu.out.size _) hgr (fun g e => own_ge HOu.out e) (by have := HBu.out.size; simp; omega))
                           clear hown hgr hat ho6)
              go_roundw
              case rel => exact ⟨k + 1, A6, c6, re, by omega, by go_num, rfl, rfl, re0, re1, HRF, HO6, HB6⟩
              case measure => simp [intOf] <;> omega
            · have e2 : ¬ (k : Int) = (q : Int) := by omega
              have e1 : ((k : Int) != (q : Int)) = true := by rw [bne_iff_ne]; exact e2
              rw [if_neg hkq] at HRS
              have HRF : Hid ((re - t0) % 113 = restK tp q ch (k + 1)) := Lib.hid HRS.out.symm
              clear hkq
              go_wp2_with fail
              refine (s_l1Sub re t0 _ re0 re1 t00 t01).mono ?_
              rintro e w' ⟨rfl, rfl⟩
              go_wp2_with (at_builtin
                           refine wpList_append_rd rfl (.tmp 77) (.tmp 79) _ rfl w.heap.size 54 _ 3 24 Try.underlying23 info_Proof rfl (by decide) (.slice Ao k co) k (cProof (othL ks tp k)) rfl HOl.out _ _ 1 1 (cProof [(bk, t0, t1)]) rfl HLP.out (cProof_one _) (by unfold maxLen; omega) (by omega) (by have := HBu.out.size; simp; omega) ?_
                           intro v6 w6 hown hgr hat
                           obtain ⟨A6, c6, hv6, ho6⟩ := Ow.of_own hown
                           subst hv6
                           have HO6 : Hid (w6.ownsRow w.heap.size 54 3 (.slice A6 (k + 1) c6) (k + 1) (cProof (othL ks tp (k + 1)))) := Lib.hid (by rw [HOT.out, cProof_app]; exact hown)
                           have HB6 : Hid (Below w.heap.size w w6) := Lib.hid (below_grown (HBu.out.alloc HBu.out.size _) hgr (fun g e => own_ge HOu.out e) (by have := HBu.out.size; simp; omega))
                           clear hown hgr hat ho6)
              go_roundw
              case rel => exact ⟨k + 1, A6, c6, (re - t0) % 113, by omega, by go_num, rfl, rfl, by omega, by omega, HRF, HO6, HB6⟩
              case measure => simp [intOf] <;> omega
          exact AllReadyH.nil
        exact AllReadyH.nil
      exact AllReadyH.nil
    · obtain rfl : n = k := by omega
      obtain ⟨A2, c2, hv2, ho2⟩ := Ow.of_own HO.out
      injection hv2 with hv2 _ hv3
      subst hv2 hv3
      obtain ⟨g, cs, hAo, hg1, hg2, _, _⟩ := ho2.lt (by omega)
      subst hAo
      have HOw := Lib.hid ho2
      clear ho2 HO
      obtain ⟨Q, hQ⟩ : ∃ Q, Hid (Q = 2 * q) := ⟨_, Lib.hid rfl⟩
      obtain ⟨b, t0, rfl, hbb, ht0, HT0⟩ := H1.out.intAt (show Q < 2 * n by have := hQ.out; omega)
      have tb0 := numsB_at5 HNU.out (k := Q) (by have := HL1.out; have := hQ.out; omega)
      rw [← HT0.out] at tb0
      obtain ⟨t00, t01⟩ := tb0
      have hta := (HBw.out.cell (p := b.add Q) (by rw [add_block]; exact hbb)).trans ht0
      have iw : IntKind.i64.wrap (2 * (q : Int)) = (Q : Int) := by rw [hQ.out]; exact IntWalk.i64_in _ (by omega)
      have i2 : (0 : Int) ≤ (Q : Int) := by omega
      have i3 : (Q : Int) < 2 * (n : Int) := by have := hQ.out; omega
      have i6 : (0 : Int) ≤ (q : Int) := by omega
      have i7 : (q : Int) < (n : Int) := by omega
      obtain ⟨p0, hp0⟩ : ∃ v, Hid (powI 4 t0 227 = v) := ⟨_, Lib.hid rfl⟩
      obtain ⟨p2, hp2⟩ : ∃ v, Hid ((t0 + re * s) % 113 = v) := ⟨_, Lib.hid rfl⟩
      have HMK := fun W => Lib.hid (s_make s t0 re W s0 s1 t00 t01 re0 re1)
      simp only [hp0.out, hp2.out] at HMK
      have HFL : Hid (R_EitherMake_0 ks (q : Int) s ch tp = (othL ks tp n).set q (p0, re, p2)) := Lib.hid (by
        rw [HF.out.2]; unfold emakeL ownP; rw [HL.out, ← HRE.out, ← hQ.out, ← HT0.out, hp0.out, hp2.out]; rfl)
      have HF1 := Lib.hid HF.out.1
      clear ht0 HT0 hp0 hp2 HRE HF hQ
      go_wp2_with fail
      refine (HMK _).out.mono ?_
      rintro e w3 ⟨rfl, hb3⟩
      have hzw := HBw.out.size
      have HO3 := Lib.hid (HOw.out.below hb3 (Nat.le_refl _))
      have HB3 : Hid (Below w.heap.size w w3) := Lib.hid (HBw.out.trans (hb3.mono hzw))
      have hz3 := hb3.size
      clear hb3 HOw HBw HMK hta
      have hlt2 : q * 3 + 2 < n * 3 := by omega
      have hlen2 : (cProof (othL ks tp n)).length = n * 3 := HO3.out.1
      obtain ⟨u0, hu0⟩ : ∃ u, w3.cell? ⟨g, q * 3, none⟩ = some u := ⟨_, HO3.out.cellAt (List.getElem?_eq_getElem (by omega))⟩
      obtain ⟨u1, hu1⟩ : ∃ u, w3.cell? ⟨g, q * 3 + 1, none⟩ = some u := ⟨_, HO3.out.cellAt (List.getElem?_eq_getElem (by omega))⟩
      obtain ⟨u2, hu2⟩ : ∃ u, w3.cell? ⟨g, q * 3 + 2, none⟩ = some u := ⟨_, HO3.out.cellAt (List.getElem?_eq_getElem (by omega))⟩
      have hf0 := HO3.out.free (by omega) (q * 3)
      have hf1 := HO3.out.free (by omega) (q * 3 + 1)
      have hf2 := HO3.out.free (by omega) (q * 3 + 2)
      obtain ⟨w4, hw4⟩ : ∃ W, Hid (((w3.setCell ⟨g, q * 3, none⟩ (.int .i64 p0)).setCell ⟨g, q * 3 + 1, none⟩ (.int .i64 re)).setCell ⟨g, q * 3 + 2, none⟩ (.int .i64 p2) = W) := ⟨_, Lib.hid rfl⟩
      have HB4 : Hid (Below w.heap.size w w4) := Lib.hid (by rw [← hw4.out]; exact ((HB3.out.setCell (p := ⟨g, q * 3, none⟩) hg1 _).setCell (p := ⟨g, q * 3 + 1, none⟩) hg1 _).setCell (p := ⟨g, q * 3 + 2, none⟩) hg1 _)
      have HO4 : Hid (OwProofS w4 w.heap.size w4.heap.size (.slice (some ⟨g, 0, none⟩) n co) (R_EitherMake_0 ks (q : Int) s ch tp)) := Lib.hid (by
        have h0 := HO3.out.setProof (k := q) p0 re p2
        rw [hw4.out, ← HFL.out] at h0
        have hz : wr.heap.size ≤ w4.heap.size := by rw [← hw4.out]; simp only [World.size_setCell]; exact hz3
        exact ⟨by have := h0.Prooflen; omega, _, _, _, rfl, h0.widen (Nat.le_refl _) hz⟩)
      clear HO3 HB3 hlen2
      go_wp2
      rw [hw4.out]
      go_ret2
      exact ⟨_, ret_vb5 HF1.out, HO4.out, HB4.out⟩
end Go.Proofs.Ytdhakbpimbadgaa
