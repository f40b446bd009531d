import Derived.Test.YtdhakbpimbadgaaWalk15f
import Derived.Test.YtdhakbpimbadgaaWalk16l
import Derived.RangeFuncNested
import Derived.RangeFuncCalls
import Derived.RangeFuncLeaves
import Derived.Shelf.Abstract
import Derived.OwnWalkIn
import Derived.TacticsInMore
import Derived.LoopNIn
import Derived.LoopIn
import Derived.Sort.CutIn
import Derived.Test.YtdhakbpimbadgaaFProof
import Derived.Stop.RegionWithIn
import Derived.Test.YtdhakbpimbadgaaWalk2a
import Derived.Test.YtdhakbpimbadgaaDraw20
import Derived.Test.YtdhakbpimbadgaaDrawN
import Derived.Test.YtdhakbpimbadgaaWalk16f
import Derived.Test.YtdhakbpimbadgaaDraw2b
import Derived.Test.YtdhakbpimbadgaaLaw
/- Chapter 15: EitherMake of the model. Made by tools/gen15/n.py. -/
namespace Go.Proofs.Ytdhakbpimbadgaa
open Go.RowKit
set_option maxRecDepth 100000

theorem emk_no {ks : List Int} {i s ch : Int} {tp : List Int} (h : emakeB ks i s ch tp = false) : Hid (false = R_EitherMake_1 ks i s ch tp ∧ R_EitherMake_0 ks i s ch tp = []) := Lib.hid ⟨h.symm, by unfold R_EitherMake_0; rw [h]; rfl⟩
theorem emk_yes {ks : List Int} {i s ch : Int} {tp : List Int} (h : emakeB ks i s ch tp = true) : Hid (true = R_EitherMake_1 ks i s ch tp ∧ R_EitherMake_0 ks i s ch tp = emakeL ks i.toNat s ch tp) := Lib.hid ⟨h.symm, by unfold R_EitherMake_0; rw [if_pos h]⟩
theorem OwProofS.nil5 (w : World) (lo hi : Nat) : OwProofS w lo hi (.slice none 0 0) [] := ⟨by simp, none, 0, 0, rfl, by simp [cProof], Nat.le_refl _, .inl rfl⟩
theorem numsB_at5 {zs : List Int} (h : numsB zs = true) {k : Nat} (hk : k < zs.length) : 0 ≤ zs.getD k 0 ∧ zs.getD k 0 ≤ 112 := by
  unfold numsB at h
  rw [List.all_eq_true] at h
  have := (numB_iff _).1 (h _ (List.getElem_mem hk))
  rw [List.getD_eq_getElem?_getD, List.getElem?_eq_getElem hk]; simpa using this
theorem add_succ5 (a : Addr) (j : Nat) : a.add (j + 1) = ⟨a.block, a.off + (j + 1), none⟩ := by unfold Addr.add; rw [if_neg (by omega)]
theorem elsB_el {ks : List Int} (h : elsB ks = true) {k : Nat} (hk : k < ks.length) : elB (ks.getD k 0) = true := by
  unfold elsB at h
  rw [List.all_eq_true] at h
  have := h _ (List.getElem_mem hk)
  rwa [← getD_of ks k hk] at this
theorem lit3_at {w : World} {B e : Nat} {u v x : Value} (h : w.heap[B]? = some (.cells #[u, v, x] e (0, 0))) : Rd w (B + 1) 3 (some ⟨B, 0, none⟩) 1 [u, v, x] :=
  ⟨rfl, fun _ => ⟨_, rfl, Nat.lt_succ_self _, fun j z hz => by
    have hj : j < 3 := by have := (List.getElem?_eq_some_iff.1 hz).1; simpa using this
    rw [add_zero_head, cell_of_row w B j _ _ _ h]
    simpa using hz⟩⟩
theorem cProof_one (ps : List Pf) : ∀ u ∈ cProof ps, u.oneCell' = true := by
  intro u hu
  simp only [cProof, List.mem_flatMap] at hu
  obtain ⟨p, _, hp⟩ := hu
  simp only [List.mem_cons, List.not_mem_nil, or_false] at hp
  rcases hp with rfl | rfl | rfl <;> rfl
def othL (ks tp : List Int) (n : Nat) : List Pf := (List.range n).map (otherP ks tp)
theorem othL_succ (ks tp : List Int) (n : Nat) : othL ks tp (n + 1) = othL ks tp n ++ [otherP ks tp n] := by simp [othL, List.range_succ]
theorem cProof_app (a b : List Pf) : cProof (a ++ b) = cProof a ++ cProof b := by
  induction a with
  | nil => rfl
  | cons p t ih => rw [List.cons_append, cProof_cons, cProof_cons, ih]; rfl
theorem s_feign (k c r : Int) (w : World) (he : elB k = true) (c0 : 0 ≤ c) (c1 : c ≤ 112) (r0 : 0 ≤ r) (r1 : r ≤ 112) :
    Calls Try.prog 38 #[.int .i64 k, .int .i64 c, .int .i64 r] w fun e w' => e = .returned (.tuple #[.agg #[.int .i64 (backI 4 k r c), .int .i64 c, .int .i64 r], .bool true]) ∧ Below w.heap.size w w' := by
  have h := X_s_ProofFeign k c r w
  have hb : feignB k c r = true := by simp only [feignB, Bool.and_eq_true]; exact ⟨he, (numB_iff c).2 ⟨c0, c1⟩, (numB_iff r).2 ⟨r0, r1⟩⟩
  unfold feignD at h
  rw [if_pos hb, hb] at h
  exact h
theorem s_make (s n c : Int) (w : World) (s0 : 0 ≤ s) (s1 : s ≤ 112) (n0 : 0 ≤ n) (n1 : n ≤ 112) (c0 : 0 ≤ c) (c1 : c ≤ 112) :
    Calls Try.prog 40 #[.int .i64 s, .int .i64 n, .int .i64 c] w fun e w' => e = .returned (.tuple #[.agg #[.int .i64 (powI 4 n 227), .int .i64 c, .int .i64 ((n + c * s) % 113)], .bool true]) ∧ Below w.heap.size w w' := by
  have h := X_s_ProofMake s n c w
  have hb : makeB s n c = true := by simp only [makeB, Bool.and_eq_true]; exact ⟨(numB_iff s).2 ⟨s0, s1⟩, (numB_iff n).2 ⟨n0, n1⟩, (numB_iff c).2 ⟨c0, c1⟩⟩
  unfold makeD at h
  rw [if_pos hb, hb] at h
  exact h

set_option maxHeartbeats 8000000 in
theorem X_s_EitherMake (v v1 : Value) (ks : List Int) (i s ch : Int) (tp : List Int) (w : World) (h : RdIntS w w.heap.size v ks) (h1 : RdIntS w w.heap.size v1 tp) (hs : szIntS ks ≤ 1048576) (hs1 : szIntS tp ≤ 1048576) :
    Calls Try.prog 10 #[v, .int .i64 i, .int .i64 s, .int .i64 ch, v1] w fun e w' => ∃ g, e = .returned (.tuple #[g, .bool (R_EitherMake_1 ks i s ch tp)]) ∧ OwProofS w' w.heap.size w'.heap.size g (R_EitherMake_0 ks i s ch tp) ∧ Below w.heap.size w w' := by
  obtain ⟨A, n, c, rfl, _, h⟩ := h
  obtain ⟨A1, n1, c1, rfl, _, h1⟩ := h1
  have HL := Lib.hid h.len
  have HL1 := Lib.hid h1.len
  have hn : n ≤ 1048576 := by have := HL.out; unfold szIntS at hs; omega
  have hn1 : n1 ≤ 1048576 := by have := HL1.out; unfold szIntS at hs1; omega
  have H := Lib.hid h
  have H1 := Lib.hid h1
  clear h h1 hs hs1
  go_enter Try.func10, Try.ntmps10
  go_wp2_with fail
  refine (s_l15Knows A n c ks i s w H.out hn).mono ?_
  rintro e w1 ⟨rfl, hst⟩
  have HB1 : Hid (Below w.heap.size w w1) := Lib.hid (hst.below _)
  have z1 := HB1.out.size
  clear hst
  cases hko : keysB ks && ownB ks i s
  · have HF := emk_no (ks := ks) (i := i) (s := s) (ch := ch) (tp := tp) (by cases a1 : keysB ks <;> cases a2 : ownB ks i s <;> simp_all [emakeB])
    go_wp2
    go_ret2
    exact ⟨_, ret_vb5 HF.out.1, by rw [HF.out.2]; exact OwProofS.nil5 _ _ _, HB1.out⟩
  have hko2 := hko
  simp only [Bool.and_eq_true] at hko2
  have HKO := Lib.hid hko2
  clear hko hko2
  go_wp2_with fail
  refine (s_NumOk ch w1).mono ?_
  rintro e w' ⟨rfl, rfl⟩
  cases hc : numB ch
  · have HF := emk_no (ks := ks) (i := i) (s := s) (ch := ch) (tp := tp) (by unfold emakeB; rw [hc]; simp)
    go_wp2
    go_ret2
    exact ⟨_, ret_vb5 HF.out.1, by rw [HF.out.2]; exact OwProofS.nil5 _ _ _, HB1.out⟩
  have tw0 : IntKind.i64.wrap (2 * (n : Int)) = 2 * (n : Int) := IntWalk.i64_in _ (by omega)
  by_cases hnn : n1 = 2 * n
  rotate_left
  · have e1 : ((n1 : Int) != 2 * (n : Int)) = true := by rw [bne_iff_ne]; omega
    have e2 : ¬ (n1 : Int) = 2 * (n : Int) := by omega
    have HF := emk_no (ks := ks) (i := i) (s := s) (ch := ch) (tp := tp) (by unfold emakeB; rw [HL.out, HL1.out]; simp [hnn])
    go_wp2
    go_ret2
    exact ⟨_, ret_vb5 HF.out.1, by rw [HF.out.2]; exact OwProofS.nil5 _ _ _, HB1.out⟩
  subst hnn
  go_wp2_with fail
  refine (s_l1In A1 (2 * n) c1 tp w1 ((H1.out.below HB1.out).more z1) hn1).mono ?_
  rintro e w' ⟨rfl, rfl⟩
  cases ht : numsB tp
  · have HF := emk_no (ks := ks) (i := i) (s := s) (ch := ch) (tp := tp) (by unfold emakeB; rw [ht]; simp)
    go_wp2
    go_ret2
    exact ⟨_, ret_vb5 HF.out.1, by rw [HF.out.2]; exact OwProofS.nil5 _ _ _, HB1.out⟩
  have hch := (numB_iff ch).1 hc
  have HF := emk_yes (ks := ks) (i := i) (s := s) (ch := ch) (tp := tp) (by unfold emakeB; rw [HKO.out.1, HKO.out.2, hc, ht, HL.out, HL1.out]; simp)
  have hk6 := keysB_len HKO.out.1
  have hown := ownB_at HKO.out.2
  rw [HL.out] at hk6 hown
  obtain ⟨⟨i0, i1⟩, ⟨s0, s1⟩, _⟩ := hown
  obtain ⟨q, rfl⟩ := Int.eq_ofNat_of_zero_le i0
  rw [Int.toNat_natCast] at HF
  have HEL : Hid (elsB ks = true) := Lib.hid (by have := HKO.out.1; simp only [keysB, Bool.and_eq_true] at this; exact this.2)
  have HNU := Lib.hid ht
  have hch0 : 0 ≤ ch := hch.1
  have hch1 : ch ≤ 112 := hch.2
  clear hc ht hch HKO
  have nn1 : ¬ (q : Int) < 0 := by omega
  have H0 : Hid ((w1.alloc (.cells #[] 54)).ownsRow w.heap.size 54 3 (.slice (some ⟨w1.heap.size, 0, none⟩) 0 0) 0 (cProof (othL ks tp 0))) := Lib.hid (own_wide (own_empty w1 _ 3) z1)
  have HB0 : Hid (Below w.heap.size w (w1.alloc (.cells #[] 54))) := Lib.hid (HB1.out.alloc z1 _)
  go_wp2
  clear HB1
  go_loopw [12, 13, 14] (fun out rest i wr => ∃ (k : Nat) (Ao : Option Addr) (co : Nat) (re : Int), k ≤ n ∧ i = .int .i64 k ∧ out = .slice Ao k co ∧ rest = .int .i64 re ∧ 0 ≤ re ∧ re ≤ 112 ∧ Hid (re = restK tp q ch k) ∧ Hid (wr.ownsRow w.heap.size 54 3 (.slice Ao k co) k (cProof (othL ks tp k))) ∧ Hid (Below w.heap.size w wr)) (fun _ _ i _ => n - (intOf i).toNat)
  case atStart => exact ⟨0, _, 0, ch, Nat.zero_le _, rfl, rfl, rfl, hch0, hch1, Lib.hid rfl, H0, HB0⟩
  case round =>
    clear H0 HB0
    obtain ⟨k, Ao, co, re, hk, rfl, rfl, rfl, re0, re1, HRE, HO, HBw⟩ := hrel
    by_cases hlt : k < n
    · obtain ⟨J, HJ⟩ : ∃ J, Hid (J = 2 * k) := ⟨_, Lib.hid rfl⟩
      have hJ1 : J + 1 < 2 * n := by have := HJ.out; omega
      obtain ⟨a, kv, rfl, hab, hkv0, HKV⟩ := H.out.intAt hlt
      obtain ⟨b, t0, rfl, hbb, ht0, HT0⟩ := H1.out.intAt (show J < 2 * n by omega)
      obtain ⟨b2, t1, eb, _, ht1, HT1⟩ := H1.out.intAt hJ1
      injection eb with eb
      subst eb
      rw [add_succ5] at ht1
      have hzw := HBw.out.size
      have hba : (a.add k).block < wr.heap.size := by rw [add_block]; omega
      have hbb1 : (b.add J).block < wr.heap.size := by rw [add_block]; omega
      have hbb2 : b.block < wr.heap.size := by omega
      have HKA := Lib.hid ((HBw.out.cell (p := a.add k) (by rw [add_block]; exact hab)).trans hkv0)
      have HTA := Lib.hid ((HBw.out.cell (p := b.add J) (by rw [add_block]; exact hbb)).trans ht0)
      have HTB := Lib.hid ((HBw.out.cell (p := ⟨b.block, b.off + (J + 1), none⟩) hbb).trans ht1)
      have tb0 := numsB_at5 HNU.out (k := J) (by have := HL1.out; omega)
      have tb1 := numsB_at5 HNU.out (k := J + 1) (by have := HL1.out; omega)
      rw [← HT0.out] at tb0
      rw [← HT1.out] at tb1
      obtain ⟨t00, t01⟩ := tb0
      obtain ⟨t10, t11⟩ := tb1
      have hel : elB kv = true := by rw [HKV.out]; exact elsB_el HEL.out (by have := HL.out; omega)
      have HOT : Hid (othL ks tp (k + 1) = othL ks tp k ++ [(backI 4 kv t1 t0, t0, t1)]) := Lib.hid (by rw [othL_succ, otherP, ← HJ.out, ← HKV.out, ← HT0.out, ← HT1.out])
      have HRS : Hid (restK tp q ch (k + 1) = if k = q then re else (re - t0) % 113) := Lib.hid (by rw [restK, ← HJ.out, ← HT0.out, ← HRE.out])
      obtain ⟨bk, hbk⟩ : ∃ v, Hid (backI 4 kv t1 t0 = v) := ⟨_, Lib.hid rfl⟩
      have HFE := fun W => Lib.hid (s_feign kv t0 t1 W hel t00 t01 t10 t11)
      rw [hbk.out] at HOT
      simp only [hbk.out] at HFE
      have iw : IntKind.i64.wrap (2 * (k : Int)) = (J : Int) := by rw [HJ.out]; exact IntWalk.i64_in _ (by omega)
      have iw2 : IntKind.i64.wrap ((J : Int) + 1) = (J : Int) + 1 := IntWalk.i64_in _ (by omega)
      have it2 : ((J : Int) + 1).toNat = J + 1 := by omega
      have i0 : (0 : Int) ≤ (k : Int) := by omega
      have i1 : (k : Int) < (n : Int) := by omega
      have i2 : (0 : Int) ≤ (J : Int) := by omega
      have i3 : (J : Int) < 2 * (n : Int) := by omega
      have i4 : (0 : Int) ≤ (J : Int) + 1 := by omega
      have i5 : (J : Int) + 1 < 2 * (n : Int) := by omega
      have HB : Hid (Below wr.heap.size wr wr) := Lib.hid (Below.refl _ _)
      clear hkv0 ht0 ht1 HKV HT0 HT1 hbk HRE hel hJ1
      go_wp2
      refine wp_region_held_drew (S := fun w' => w'.cell? (a.add k) = some (.int .i64 kv) ∧ w'.cell? (b.add J) = some (.int .i64 t0) ∧ w'.cell? ⟨b.block, b.off + (J + 1), none⟩ = some (.int .i64 t1)) (by kernel_rfl) ⟨(HB.out.cell (p := (a.add k)) hba).trans HKA.out, (HB.out.cell (p := (b.add J)) hbb1).trans HTA.out, (HB.out.cell (p := ⟨b.block, b.off + (J + 1), none⟩) hbb2).trans HTB.out⟩ (fun hHeld => ?_)
      obtain ⟨u0, hu0⟩ : ∃ u0, Hid (wr.drew = u0) := ⟨_, Lib.hid rfl⟩
      rw [hu0.out] at hHeld ⊢
      have zs0 : wr.heap.size = u0.heap.size := by rw [← hu0.out]; rfl
      replace zs0 := Nat.le_of_eq zs0
      have HBl0 : Hid (Below wr.heap.size wr u0) := Lib.hid (by rw [← hu0.out]; exact HB.out.drew)
      clear hu0
      refine wpAnyH_take (i := 0) (oi := { dst := some 49, op := Op.move (Operand.tmp 0), type := 22, pos := "l15_either.go:28", after := #[], guard := none }) (v := ?_) rfl (by kernel_rfl) (by kernel_rfl) (by kernel_rfl) (fun _ _ _ h => h) (Or.inl ⟨by rfl, ?_⟩) hHeld ?_
      rotate_left
      · intro w hSw; obtain ⟨s0, s1, s2⟩ := hSw; (try dsimp only at hSw); go_simp; (try with_reducible rfl)
      try simp only [Act.put, List.setIfInBounds_toArray, List.set_cons_zero, List.set_cons_succ]
      refine wpAnyH_take (i := 1) (oi := { dst := some 50, op := Op.move (Operand.tmp 14), type := 3, pos := "l15_either.go:28", after := #[], guard := none }) (v := ?_) rfl (by kernel_rfl) (by kernel_rfl) (by kernel_rfl) (fun _ _ _ h => h) (Or.inl ⟨by rfl, ?_⟩) hHeld ?_
      rotate_left
      · intro w hSw; obtain ⟨s0, s1, s2⟩ := hSw; (try dsimp only at hSw); go_simp; (try with_reducible rfl)
      try simp only [Act.put, List.setIfInBounds_toArray, List.set_cons_zero, List.set_cons_succ]
      refine wpAnyH_take (i := 2) (oi := { dst := some 51, op := Op.indexAddr 22 (Operand.tmp 49) (Operand.tmp 50), type := 0, pos := "l15_either.go:28", after := #[{ on := 0, ground := Ground.data }, { on := 1, ground := Ground.data }], guard := none }) (v := ?_) rfl (by kernel_rfl) (by kernel_rfl) (by kernel_rfl) (fun _ _ _ h => h) (Or.inl ⟨by rfl, ?_⟩) hHeld ?_
      rotate_left
      · intro w hSw; obtain ⟨s0, s1, s2⟩ := hSw; (try dsimp only at hSw); go_simp; (try with_reducible rfl)
      try simp only [Act.put, List.setIfInBounds_toArray, List.set_cons_zero, List.set_cons_succ]
      refine wpAnyH_take (i := 3) (oi := { dst := some 52, op := Op.load 3 (Operand.tmp 51), type := 3, pos := "l15_either.go:28", after := #[{ on := 2, ground := Ground.data }], guard := none }) (v := ?_) rfl (by kernel_rfl) (by kernel_rfl) (by kernel_rfl) (fun _ _ _ h => h) (Or.inl ⟨by rfl, ?_⟩) hHeld ?_
      rotate_left
      · intro w hSw; obtain ⟨s0, s1, s2⟩ := hSw; (try dsimp only at hSw); go_simp; (try with_reducible rfl)
      try simp only [Act.put, List.setIfInBounds_toArray, List.set_cons_zero, List.set_cons_succ]
      refine wpAnyH_take (i := 4) (oi := { dst := some 53, op := Op.move (Operand.tmp 4), type := 22, pos := "l15_either.go:28", after := #[], guard := none }) (v := ?_) rfl (by kernel_rfl) (by kernel_rfl) (by kernel_rfl) (fun _ _ _ h => h) (Or.inl ⟨by rfl, ?_⟩) hHeld ?_
      rotate_left
      · intro w hSw; obtain ⟨s0, s1, s2⟩ := hSw; (try dsimp only at hSw); go_simp; (try with_reducible rfl)
      try simp only [Act.put, List.setIfInBounds_toArray, List.set_cons_zero, List.set_cons_succ]
      refine wpAnyH_take (i := 5) (oi := { dst := some 54, op := Op.move (Operand.tmp 14), type := 3, pos := "l15_either.go:28", after := #[], guard := none }) (v := ?_) rfl (by kernel_rfl) (by kernel_rfl) (by kernel_rfl) (fun _ _ _ h => h) (Or.inl ⟨by rfl, ?_⟩) hHeld ?_
      rotate_left
      · intro w hSw; obtain ⟨s0, s1, s2⟩ := hSw; (try dsimp only at hSw); go_simp; (try with_reducible rfl)
      try simp only [Act.put, List.setIfInBounds_toArray, List.set_cons_zero, List.set_cons_succ]
      refine wpAnyH_take (i := 6) (oi := { dst := some 55, op := Op.binOp BinOp.mul 3 (Operand.const (Value.int IntKind.i64 2)) (Operand.tmp 54) 3, type := 3, pos := "l15_either.go:28", after := #[{ on := 5, ground := Ground.data }], guard := none }) (v := ?_) rfl (by kernel_rfl) (by kernel_rfl) (by kernel_rfl) (fun _ _ _ h => h) (Or.inl ⟨by rfl, ?_⟩) hHeld ?_
      rotate_left
      · intro w hSw; obtain ⟨s0, s1, s2⟩ := hSw; (try dsimp only at hSw); go_simp; (try with_reducible rfl)
      try simp only [Act.put, List.setIfInBounds_toArray, List.set_cons_zero, List.set_cons_succ]
      refine wpAnyH_take (i := 7) (oi := { dst := some 56, op := Op.indexAddr 22 (Operand.tmp 53) (Operand.tmp 55), type := 0, pos := "l15_either.go:28", after := #[{ on := 4, ground := Ground.data }, { on := 6, ground := Ground.data }], guard := none }) (v := ?_) rfl (by kernel_rfl) (by kernel_rfl) (by kernel_rfl) (fun _ _ _ h => h) (Or.inl ⟨by rfl, ?_⟩) hHeld ?_
      rotate_left
      · intro w hSw; obtain ⟨s0, s1, s2⟩ := hSw; (try dsimp only at hSw); go_simp; (try with_reducible rfl)
      try simp only [Act.put, List.setIfInBounds_toArray, List.set_cons_zero, List.set_cons_succ]
      refine wpAnyH_take (i := 8) (oi := { dst := some 57, op := Op.load 3 (Operand.tmp 56), type := 3, pos := "l15_either.go:28", after := #[{ on := 7, ground := Ground.data }], guard := none }) (v := ?_) rfl (by kernel_rfl) (by kernel_rfl) (by kernel_rfl) (fun _ _ _ h => h) (Or.inl ⟨by rfl, ?_⟩) hHeld ?_
      rotate_left
      · intro w hSw; obtain ⟨s0, s1, s2⟩ := hSw; (try dsimp only at hSw); go_simp; (try with_reducible rfl)
      try simp only [Act.put, List.setIfInBounds_toArray, List.set_cons_zero, List.set_cons_succ]
      refine wpAnyH_take (i := 9) (oi := { dst := some 58, op := Op.move (Operand.tmp 4), type := 22, pos := "l15_either.go:28", after := #[], guard := none }) (v := ?_) rfl (by kernel_rfl) (by kernel_rfl) (by kernel_rfl) (fun _ _ _ h => h) (Or.inl ⟨by rfl, ?_⟩) hHeld ?_
      rotate_left
      · intro w hSw; obtain ⟨s0, s1, s2⟩ := hSw; (try dsimp only at hSw); go_simp; (try with_reducible rfl)
      try simp only [Act.put, List.setIfInBounds_toArray, List.set_cons_zero, List.set_cons_succ]
      refine wpAnyH_take (i := 10) (oi := { dst := some 59, op := Op.move (Operand.tmp 14), type := 3, pos := "l15_either.go:28", after := #[], guard := none }) (v := ?_) rfl (by kernel_rfl) (by kernel_rfl) (by kernel_rfl) (fun _ _ _ h => h) (Or.inl ⟨by rfl, ?_⟩) hHeld ?_
      rotate_left
      · intro w hSw; obtain ⟨s0, s1, s2⟩ := hSw; (try dsimp only at hSw); go_simp; (try with_reducible rfl)
      try simp only [Act.put, List.setIfInBounds_toArray, List.set_cons_zero, List.set_cons_succ]
      refine wpAnyH_take (i := 11) (oi := { dst := some 60, op := Op.binOp BinOp.mul 3 (Operand.const (Value.int IntKind.i64 2)) (Operand.tmp 59) 3, type := 3, pos := "l15_either.go:28", after := #[{ on := 10, ground := Ground.data }], guard := none }) (v := ?_) rfl (by kernel_rfl) (by kernel_rfl) (by kernel_rfl) (fun _ _ _ h => h) (Or.inl ⟨by rfl, ?_⟩) hHeld ?_
      rotate_left
      · intro w hSw; obtain ⟨s0, s1, s2⟩ := hSw; (try dsimp only at hSw); go_simp; (try with_reducible rfl)
      try simp only [Act.put, List.setIfInBounds_toArray, List.set_cons_zero, List.set_cons_succ]
      refine wpAnyH_take (i := 12) (oi := { dst := some 61, op := Op.binOp BinOp.add 3 (Operand.tmp 60) (Operand.const (Value.int IntKind.i64 1)) 3, type := 3, pos := "l15_either.go:28", after := #[{ on := 11, ground := Ground.data }], guard := none }) (v := ?_) rfl (by kernel_rfl) (by kernel_rfl) (by kernel_rfl) (fun _ _ _ h => h) (Or.inl ⟨by rfl, ?_⟩) hHeld ?_
      rotate_left
      · intro w hSw; obtain ⟨s0, s1, s2⟩ := hSw; (try dsimp only at hSw); go_simp; (try with_reducible rfl)
      try simp only [Act.put, List.setIfInBounds_toArray, List.set_cons_zero, List.set_cons_succ]
      refine wpAnyH_take (i := 13) (oi := { dst := some 62, op := Op.indexAddr 22 (Operand.tmp 58) (Operand.tmp 61), type := 0, pos := "l15_either.go:28", after := #[{ on := 9, ground := Ground.data }, { on := 12, ground := Ground.data }], guard := none }) (v := ?_) rfl (by kernel_rfl) (by kernel_rfl) (by kernel_rfl) (fun _ _ _ h => h) (Or.inl ⟨by rfl, ?_⟩) hHeld ?_
      rotate_left
      · intro w hSw; obtain ⟨s0, s1, s2⟩ := hSw; (try dsimp only at hSw); go_simp; (try with_reducible rfl)
      try simp only [Act.put, List.setIfInBounds_toArray, List.set_cons_zero, List.set_cons_succ]
      refine wpAnyH_take (i := 14) (oi := { dst := some 63, op := Op.load 3 (Operand.tmp 62), type := 3, pos := "l15_either.go:28", after := #[{ on := 13, ground := Ground.data }], guard := none }) (v := ?_) rfl (by kernel_rfl) (by kernel_rfl) (by kernel_rfl) (fun _ _ _ h => h) (Or.inl ⟨by rfl, ?_⟩) hHeld ?_
      rotate_left
      · intro w hSw; obtain ⟨s0, s1, s2⟩ := hSw; (try dsimp only at hSw); go_simp; (try with_reducible rfl)
      try simp only [Act.put, List.setIfInBounds_toArray, List.set_cons_zero, List.set_cons_succ]
      refine wpAnyH_ready (rs := [15, 19]) (by kernel_rfl) (by simp) ?_
      refine AllReadyH.cons (o := { dst := some 64, op := Op.call { callee := Callee.value (Operand.func 38), args := #[Operand.tmp 52, Operand.tmp 57, Operand.tmp 63], argTypes := #[3, 3, 3] }, type := 55, pos := "l15_either.go:28", after := #[{ on := 3, ground := Ground.data }, { on := 8, ground := Ground.data }, { on := 14, ground := Ground.data }], guard := none }) rfl (fun K hK => ?_) ?_
      · go_simp
        refine ((HFE u0).out).mono ?_
        rintro e u1 ⟨rfl, hb_⟩
        have zs1 : u0.heap.size ≤ u1.heap.size := hb_.size
        have HBl1 : Hid (Below wr.heap.size wr u1) := Lib.hid (HBl0.out.trans (hb_.mono HBl0.out.size))
        clear hHeld hb_ HBl0
        (try dsimp only)
        (try go_wp2_with fail)
        refine hK.out _ _ ⟨((HBl1.out.cell (p := (a.add k)) hba).trans HKA.out), ((HBl1.out.cell (p := (b.add J)) hbb1).trans HTA.out), ((HBl1.out.cell (p := ⟨b.block, b.off + (J + 1), none⟩) hbb2).trans HTB.out)⟩ (fun hHeld => ?_)
        clear hK K
        try simp only [Act.put, List.setIfInBounds_toArray, List.set_cons_zero, List.set_cons_succ]
        refine wpAnyH_take (i := 16) (oi := { dst := some 48, op := Op.move (Operand.tmp 64), type := 55, pos := "l15_either.go:28", after := #[{ on := 15, ground := Ground.data }], guard := none }) (v := ?_) rfl (by kernel_rfl) (by kernel_rfl) (by kernel_rfl) (fun _ _ _ h => h) (Or.inl ⟨by rfl, ?_⟩) hHeld ?_
        rotate_left
        · intro w hSw; obtain ⟨s0, s1, s2⟩ := hSw; (try dsimp only at hSw); go_simp; (try with_reducible rfl)
        try simp only [Act.put, List.setIfInBounds_toArray, List.set_cons_zero, List.set_cons_succ]
        refine wpAnyH_take (i := 17) (oi := { dst := some 65, op := Op.extract (Operand.tmp 48) 0, type := 54, pos := "l15_either.go:28", after := #[{ on := 16, ground := Ground.data }], guard := none }) (v := ?_) rfl (by kernel_rfl) (by kernel_rfl) (by kernel_rfl) (fun _ _ _ h => h) (Or.inl ⟨by rfl, ?_⟩) hHeld ?_
        rotate_left
        · intro w hSw; obtain ⟨s0, s1, s2⟩ := hSw; (try dsimp only at hSw); go_simp; (try with_reducible rfl)
        try simp only [Act.put, List.setIfInBounds_toArray, List.set_cons_zero, List.set_cons_succ]
        refine wpAnyH_take (i := 18) (oi := { dst := some 66, op := Op.extract (Operand.tmp 48) 1, type := 4, pos := "l15_either.go:28", after := #[{ on := 16, ground := Ground.data }, { on := 20, ground := Ground.gcOnly Departure.lateStores }], guard := none }) (v := ?_) rfl (by kernel_rfl) (by kernel_rfl) (by kernel_rfl) (fun _ _ _ h => h) (Or.inl ⟨by rfl, ?_⟩) hHeld ?_
        rotate_left
        · intro w hSw; obtain ⟨s0, s1, s2⟩ := hSw; (try dsimp only at hSw); go_simp; (try with_reducible rfl)
        try simp only [Act.put, List.setIfInBounds_toArray, List.set_cons_zero, List.set_cons_succ]
        refine wpAnyH_ready (rs := [19]) (by kernel_rfl) (by simp) ?_
        refine AllReadyH.cons (o := { dst := some 15, op := Op.alloc 54, type := 0, pos := "l15_either.go:28", after := #[], guard := none }) rfl (fun K hK => ?_) ?_
        · go_simp
          obtain ⟨u2, hw2⟩ : ∃ W, Hid (u1.alloc (.cells #[.int .i64 0, .int .i64 0, .int .i64 0] 54) = W) := ⟨_, Lib.hid rfl⟩
          rw [hw2.out]
          have zs2 : u1.heap.size < u2.heap.size := by rw [← hw2.out, World.size_alloc]; omega
          have HBl2 : Hid (Below wr.heap.size wr u2) := Lib.hid (by rw [← hw2.out]; exact HBl1.out.alloc HBl1.out.size _)
          have HX_b2 : Hid (Bx u2 u1.heap.size #[.int .i64 0, .int .i64 0, .int .i64 0] 54) := Lib.hid (by rw [← hw2.out]; exact Bx.new _ _ _)
          have hab2 : Below u1.heap.size u1 u2 := by rw [← hw2.out]; exact (Below.refl _ _).alloc (Nat.le_refl _) _
          clear hHeld hw2 hab2 HBl1
          refine hK.out _ _ ⟨((HBl2.out.cell (p := (a.add k)) hba).trans HKA.out), ((HBl2.out.cell (p := (b.add J)) hbb1).trans HTA.out), ((HBl2.out.cell (p := ⟨b.block, b.off + (J + 1), none⟩) hbb2).trans HTB.out)⟩ (fun hHeld => ?_)
          clear hK K
          try simp only [Act.put, List.setIfInBounds_toArray, List.set_cons_zero, List.set_cons_succ]
          refine wpAnyH_ready (rs := [20]) (by kernel_rfl) (by simp) ?_
          refine AllReadyH.cons (o := { dst := none, op := Op.store 54 (Operand.tmp 15) (Operand.tmp 65), type := 0, pos := "l15_either.go:28", after := #[{ on := 19, ground := Ground.data }, { on := 17, ground := Ground.data }, { on := 15, ground := Ground.chain }, { on := 0, ground := Ground.phase }, { on := 1, ground := Ground.phase }, { on := 2, ground := Ground.phase }, { on := 3, ground := Ground.phase }, { on := 4, ground := Ground.phase }, { on := 5, ground := Ground.phase }, { on := 6, ground := Ground.phase }, { on := 7, ground := Ground.phase }, { on := 8, ground := Ground.phase }, { on := 9, ground := Ground.phase }, { on := 10, ground := Ground.phase }, { on := 11, ground := Ground.phase }, { on := 12, ground := Ground.phase }, { on := 13, ground := Ground.phase }, { on := 14, ground := Ground.phase }, { on := 15, ground := Ground.phase }, { on := 16, ground := Ground.phase }, { on := 17, ground := Ground.phase }, { on := 18, ground := Ground.textOnly Departure.lateStores }, { on := 19, ground := Ground.phase }], guard := none }) rfl (fun K hK => ?_) ?_
          · have xc0 : u2.cell? ⟨u1.heap.size, 0, none⟩ = some (.int .i64 0) := HX_b2.out.cell 0
            have xf0 : u2.frozen? ⟨u1.heap.size, 0, none⟩ = false := HX_b2.out.free 0
            have xc1 : u2.cell? ⟨u1.heap.size, 1, none⟩ = some (.int .i64 0) := HX_b2.out.cell 1
            have xf1 : u2.frozen? ⟨u1.heap.size, 1, none⟩ = false := HX_b2.out.free 1
            have xc2 : u2.cell? ⟨u1.heap.size, 2, none⟩ = some (.int .i64 0) := HX_b2.out.cell 2
            have xf2 : u2.frozen? ⟨u1.heap.size, 2, none⟩ = false := HX_b2.out.free 2
            go_simp
            obtain ⟨u3, hw3⟩ : ∃ W, Hid ((((u2.setCell ⟨u1.heap.size, 0, none⟩ (.int .i64 bk)).setCell ⟨u1.heap.size, 1, none⟩ (.int .i64 t0)).setCell ⟨u1.heap.size, 2, none⟩ (.int .i64 t1)) = W) := ⟨_, Lib.hid rfl⟩
            rw [hw3.out]
            have hk3 : Kept (u1.heap.size) (u1.heap.size + 1) u2 u3 := by rw [← hw3.out]; exact (((Kept.refl _ _ _).setCell (p := ⟨u1.heap.size, 0, none⟩) (Nat.le_refl _) (Nat.lt_succ_self _) _).setCell (p := ⟨u1.heap.size, 1, none⟩) (Nat.le_refl _) (Nat.lt_succ_self _) _).setCell (p := ⟨u1.heap.size, 2, none⟩) (Nat.le_refl _) (Nat.lt_succ_self _) _
            have zs3 : u2.heap.size ≤ u3.heap.size := hk3.size
            have hlo3 := HBl2.out.size
            have HBl3 : Hid (Below wr.heap.size wr u3) := Lib.hid (HBl2.out.trans ((hk3.to_below (by have := HX_b2.out.lt; omega)).mono (by omega)))
            have HX_b3 : Hid (Bx u3 u1.heap.size #[.int .i64 bk, .int .i64 t0, .int .i64 t1] 54) := Lib.hid (by have := (((HX_b2.out).set 0 (.int .i64 bk)).set 1 (.int .i64 t0)).set 2 (.int .i64 t1); rw [hw3.out] at this; exact this)
            clear hHeld hw3 hk3 hlo3 xc0 xf0 xc1 xf1 xc2 xf2 HBl2 HX_b2
            refine hK.out _ _ ⟨((HBl3.out.cell (p := (a.add k)) hba).trans HKA.out), ((HBl3.out.cell (p := (b.add J)) hbb1).trans HTA.out), ((HBl3.out.cell (p := ⟨b.block, b.off + (J + 1), none⟩) hbb2).trans HTB.out)⟩ (fun hHeld => ?_)
            clear hK K
            try simp only [Act.put]
            refine wpAnyH_take (i := 21) (oi := { dst := some 16, op := Op.assign (Operand.tmp 66), type := 4, pos := "l15_either.go:28", after := #[{ on := 18, ground := Ground.data }, { on := 20, ground := Ground.chain }, { on := 0, ground := Ground.phase }, { on := 1, ground := Ground.phase }, { on := 2, ground := Ground.phase }, { on := 3, ground := Ground.phase }, { on := 4, ground := Ground.phase }, { on := 5, ground := Ground.phase }, { on := 6, ground := Ground.phase }, { on := 7, ground := Ground.phase }, { on := 8, ground := Ground.phase }, { on := 9, ground := Ground.phase }, { on := 10, ground := Ground.phase }, { on := 11, ground := Ground.phase }, { on := 12, ground := Ground.phase }, { on := 13, ground := Ground.phase }, { on := 14, ground := Ground.phase }, { on := 15, ground := Ground.phase }, { on := 16, ground := Ground.phase }, { on := 17, ground := Ground.phase }, { on := 18, ground := Ground.phase }, { on := 19, ground := Ground.phase }, { on := 20, ground := Ground.phase }], guard := none }) (v := ?_) rfl (by kernel_rfl) (by kernel_rfl) (by kernel_rfl) (fun _ _ _ h => h) (Or.inl ⟨by rfl, ?_⟩) hHeld ?_
            rotate_left
            · intro w hSw; obtain ⟨s0, s1, s2⟩ := hSw; (try dsimp only at hSw); go_simp; (try with_reducible rfl)
            try simp only [Act.put, List.setIfInBounds_toArray, List.set_cons_zero, List.set_cons_succ]
            refine wpAnyH_done (by kernel_rfl) ?_ _
            have HBu : Hid (Below w.heap.size w u3) := Lib.hid (HBw.out.trans (HBl3.out.mono hzw))
            have HOu := Lib.hid (ownsRow_below HO.out HBl3.out)
            have x0 : u3.cell? ⟨u1.heap.size, 0, none⟩ = some (.int .i64 bk) := HX_b3.out.cell 0
            have x1 : u3.cell? ⟨u1.heap.size, 1, none⟩ = some (.int .i64 t0) := HX_b3.out.cell 1
            have x2 : u3.cell? ⟨u1.heap.size, 2, none⟩ = some (.int .i64 t1) := HX_b3.out.cell 2
            have hta := (HBl3.out.cell (p := b.add J) hbb1).trans HTA.out
            have HOl := Lib.hid (HOu.out.alloc (.cells #[.int .i64 bk, .int .i64 t0, .int .i64 t1] 54))
            have HLP : Hid (Rd (u3.alloc (.cells #[.int .i64 bk, .int .i64 t0, .int .i64 t1] 54)) (u3.heap.size + 1) 3 (some ⟨u3.heap.size, 0, none⟩) 1 (cProof [(bk, t0, t1)])) := Lib.hid (lit3_at (heap_alloc_new _ _))
            clear HBl3 HX_b3 HO HBw
            by_cases hkq : k = q
            · have e1 : ((k : Int) != (q : Int)) = false := by rw [hkq]; simp
              have e2 : (k : Int) = (q : Int) := by omega
              rw [if_pos hkq] at HRS
              have HRF : Hid (re = restK tp q ch (k + 1)) := Lib.hid HRS.out.symm
              clear hkq
              go_wp2_with (at_builtin
                           refine wpList_append_rd rfl (.tmp 77) (.tmp 79) _ rfl w.heap.size 54 _ 3 24 Try.underlying23 info_Proof rfl (by decide) (.slice Ao k co) k (cProof (othL ks tp k)) rfl HOl.out _ _ 1 1 (cProof [(bk, t0, t1)]) rfl HLP.out (cProof_one _) (by unfold maxLen; omega) (by omega) (by have := HBu.out.size; simp; omega) ?_
                           intro v6 w6 hown hgr hat
                           obtain ⟨A6, c6, hv6, ho6⟩ := Ow.of_own hown
                           subst hv6
                           have HO6 : Hid (w6.ownsRow w.heap.size 54 3 (.slice A6 (k + 1) c6) (k + 1) (cProof (othL ks tp (k + 1)))) := Lib.hid (by rw [HOT.out, cProof_app]; exact hown)
                           have HB6 : Hid (Below w.heap.size w w6) := Lib.hid (below_grown (HBu.out.alloc HBu.out.size _) hgr (fun g e => own_ge HOu.out e) (by have := HBu.out.size; simp; omega))
                           clear hown hgr hat ho6)
              go_roundw
              case rel => exact ⟨k + 1, A6, c6, re, by omega, by go_num, rfl, rfl, re0, re1, HRF, HO6, HB6⟩
              case measure => simp [intOf] <;> omega
            · have e2 : ¬ (k : Int) = (q : Int) := by omega
              have e1 : ((k : Int) != (q : Int)) = true := by rw [bne_iff_ne]; exact e2
              rw [if_neg hkq] at HRS
              have HRF : Hid ((re - t0) % 113 = restK tp q ch (k + 1)) := Lib.hid HRS.out.symm
              clear hkq
              go_wp2_with fail
              refine (s_l1Sub re t0 _ re0 re1 t00 t01).mono ?_
              rintro e w' ⟨rfl, rfl⟩
              go_wp2_with (at_builtin
                           refine wpList_append_rd rfl (.tmp 77) (.tmp 79) _ rfl w.heap.size 54 _ 3 24 Try.underlying23 info_Proof rfl (by decide) (.slice Ao k co) k (cProof (othL ks tp k)) rfl HOl.out _ _ 1 1 (cProof [(bk, t0, t1)]) rfl HLP.out (cProof_one _) (by unfold maxLen; omega) (by omega) (by have := HBu.out.size; simp; omega) ?_
                           intro v6 w6 hown hgr hat
                           obtain ⟨A6, c6, hv6, ho6⟩ := Ow.of_own hown
                           subst hv6
                           have HO6 : Hid (w6.ownsRow w.heap.size 54 3 (.slice A6 (k + 1) c6) (k + 1) (cProof (othL ks tp (k + 1)))) := Lib.hid (by rw [HOT.out, cProof_app]; exact hown)
                           have HB6 : Hid (Below w.heap.size w w6) := Lib.hid (below_grown (HBu.out.alloc HBu.out.size _) hgr (fun g e => own_ge HOu.out e) (by have := HBu.out.size; simp; omega))
                           clear hown hgr hat ho6)
              go_roundw
              case rel => exact ⟨k + 1, A6, c6, (re - t0) % 113, by omega, by go_num, rfl, rfl, by omega, by omega, HRF, HO6, HB6⟩
              case measure => simp [intOf] <;> omega
          exact AllReadyH.nil
        exact AllReadyH.nil
      refine AllReadyH.cons (o := { dst := some 15, op := Op.alloc 54, type := 0, pos := "l15_either.go:28", after := #[], guard := none }) rfl (fun K hK => ?_) ?_
      · go_simp
        obtain ⟨u1, hw1⟩ : ∃ W, Hid (u0.alloc (.cells #[.int .i64 0, .int .i64 0, .int .i64 0] 54) = W) := ⟨_, Lib.hid rfl⟩
        rw [hw1.out]
        have zs1 : u0.heap.size < u1.heap.size := by rw [← hw1.out, World.size_alloc]; omega
        have HBl1 : Hid (Below wr.heap.size wr u1) := Lib.hid (by rw [← hw1.out]; exact HBl0.out.alloc HBl0.out.size _)
        have HX_b1 : Hid (Bx u1 u0.heap.size #[.int .i64 0, .int .i64 0, .int .i64 0] 54) := Lib.hid (by rw [← hw1.out]; exact Bx.new _ _ _)
        have hab1 : Below u0.heap.size u0 u1 := by rw [← hw1.out]; exact (Below.refl _ _).alloc (Nat.le_refl _) _
        clear hHeld hw1 hab1 HBl0
        refine hK.out _ _ ⟨((HBl1.out.cell (p := (a.add k)) hba).trans HKA.out), ((HBl1.out.cell (p := (b.add J)) hbb1).trans HTA.out), ((HBl1.out.cell (p := ⟨b.block, b.off + (J + 1), none⟩) hbb2).trans HTB.out)⟩ (fun hHeld => ?_)
        clear hK K
        try simp only [Act.put, List.setIfInBounds_toArray, List.set_cons_zero, List.set_cons_succ]
        refine wpAnyH_ready (rs := [15]) (by kernel_rfl) (by simp) ?_
        refine AllReadyH.cons (o := { dst := some 64, op := Op.call { callee := Callee.value (Operand.func 38), args := #[Operand.tmp 52, Operand.tmp 57, Operand.tmp 63], argTypes := #[3, 3, 3] }, type := 55, pos := "l15_either.go:28", after := #[{ on := 3, ground := Ground.data }, { on := 8, ground := Ground.data }, { on := 14, ground := Ground.data }], guard := none }) rfl (fun K hK => ?_) ?_
        · go_simp
          refine ((HFE u1).out).mono ?_
          rintro e u2 ⟨rfl, hb_⟩
          have zs2 : u1.heap.size ≤ u2.heap.size := hb_.size
          have HBl2 : Hid (Below wr.heap.size wr u2) := Lib.hid (HBl1.out.trans (hb_.mono HBl1.out.size))
          have HX_b2 : Hid (Bx u2 u0.heap.size #[.int .i64 0, .int .i64 0, .int .i64 0] 54) := Lib.hid (HX_b1.out.below hb_ HX_b1.out.lt)
          clear hHeld hb_ HBl1 HX_b1
          (try dsimp only)
          (try go_wp2_with fail)
          refine hK.out _ _ ⟨((HBl2.out.cell (p := (a.add k)) hba).trans HKA.out), ((HBl2.out.cell (p := (b.add J)) hbb1).trans HTA.out), ((HBl2.out.cell (p := ⟨b.block, b.off + (J + 1), none⟩) hbb2).trans HTB.out)⟩ (fun hHeld => ?_)
          clear hK K
          try simp only [Act.put, List.setIfInBounds_toArray, List.set_cons_zero, List.set_cons_succ]
          refine wpAnyH_take (i := 16) (oi := { dst := some 48, op := Op.move (Operand.tmp 64), type := 55, pos := "l15_either.go:28", after := #[{ on := 15, ground := Ground.data }], guard := none }) (v := ?_) rfl (by kernel_rfl) (by kernel_rfl) (by kernel_rfl) (fun _ _ _ h => h) (Or.inl ⟨by rfl, ?_⟩) hHeld ?_
          rotate_left
          · intro w hSw; obtain ⟨s0, s1, s2⟩ := hSw; (try dsimp only at hSw); go_simp; (try with_reducible rfl)
          try simp only [Act.put, List.setIfInBounds_toArray, List.set_cons_zero, List.set_cons_succ]
          refine wpAnyH_take (i := 17) (oi := { dst := some 65, op := Op.extract (Operand.tmp 48) 0, type := 54, pos := "l15_either.go:28", after := #[{ on := 16, ground := Ground.data }], guard := none }) (v := ?_) rfl (by kernel_rfl) (by kernel_rfl) (by kernel_rfl) (fun _ _ _ h => h) (Or.inl ⟨by rfl, ?_⟩) hHeld ?_
          rotate_left
          · intro w hSw; obtain ⟨s0, s1, s2⟩ := hSw; (try dsimp only at hSw); go_simp; (try with_reducible rfl)
          try simp only [Act.put, List.setIfInBounds_toArray, List.set_cons_zero, List.set_cons_succ]
          refine wpAnyH_take (i := 18) (oi := { dst := some 66, op := Op.extract (Operand.tmp 48) 1, type := 4, pos := "l15_either.go:28", after := #[{ on := 16, ground := Ground.data }, { on := 20, ground := Ground.gcOnly Departure.lateStores }], guard := none }) (v := ?_) rfl (by kernel_rfl) (by kernel_rfl) (by kernel_rfl) (fun _ _ _ h => h) (Or.inl ⟨by rfl, ?_⟩) hHeld ?_
          rotate_left
          · intro w hSw; obtain ⟨s0, s1, s2⟩ := hSw; (try dsimp only at hSw); go_simp; (try with_reducible rfl)
          try simp only [Act.put, List.setIfInBounds_toArray, List.set_cons_zero, List.set_cons_succ]
          refine wpAnyH_ready (rs := [20]) (by kernel_rfl) (by simp) ?_
          refine AllReadyH.cons (o := { dst := none, op := Op.store 54 (Operand.tmp 15) (Operand.tmp 65), type := 0, pos := "l15_either.go:28", after := #[{ on := 19, ground := Ground.data }, { on := 17, ground := Ground.data }, { on := 15, ground := Ground.chain }, { on := 0, ground := Ground.phase }, { on := 1, ground := Ground.phase }, { on := 2, ground := Ground.phase }, { on := 3, ground := Ground.phase }, { on := 4, ground := Ground.phase }, { on := 5, ground := Ground.phase }, { on := 6, ground := Ground.phase }, { on := 7, ground := Ground.phase }, { on := 8, ground := Ground.phase }, { on := 9, ground := Ground.phase }, { on := 10, ground := Ground.phase }, { on := 11, ground := Ground.phase }, { on := 12, ground := Ground.phase }, { on := 13, ground := Ground.phase }, { on := 14, ground := Ground.phase }, { on := 15, ground := Ground.phase }, { on := 16, ground := Ground.phase }, { on := 17, ground := Ground.phase }, { on := 18, ground := Ground.textOnly Departure.lateStores }, { on := 19, ground := Ground.phase }], guard := none }) rfl (fun K hK => ?_) ?_
          · have xc0 : u2.cell? ⟨u0.heap.size, 0, none⟩ = some (.int .i64 0) := HX_b2.out.cell 0
            have xf0 : u2.frozen? ⟨u0.heap.size, 0, none⟩ = false := HX_b2.out.free 0
            have xc1 : u2.cell? ⟨u0.heap.size, 1, none⟩ = some (.int .i64 0) := HX_b2.out.cell 1
            have xf1 : u2.frozen? ⟨u0.heap.size, 1, none⟩ = false := HX_b2.out.free 1
            have xc2 : u2.cell? ⟨u0.heap.size, 2, none⟩ = some (.int .i64 0) := HX_b2.out.cell 2
            have xf2 : u2.frozen? ⟨u0.heap.size, 2, none⟩ = false := HX_b2.out.free 2
            go_simp
            obtain ⟨u3, hw3⟩ : ∃ W, Hid ((((u2.setCell ⟨u0.heap.size, 0, none⟩ (.int .i64 bk)).setCell ⟨u0.heap.size, 1, none⟩ (.int .i64 t0)).setCell ⟨u0.heap.size, 2, none⟩ (.int .i64 t1)) = W) := ⟨_, Lib.hid rfl⟩
            rw [hw3.out]
            have hk3 : Kept (u0.heap.size) (u0.heap.size + 1) u2 u3 := by rw [← hw3.out]; exact (((Kept.refl _ _ _).setCell (p := ⟨u0.heap.size, 0, none⟩) (Nat.le_refl _) (Nat.lt_succ_self _) _).setCell (p := ⟨u0.heap.size, 1, none⟩) (Nat.le_refl _) (Nat.lt_succ_self _) _).setCell (p := ⟨u0.heap.size, 2, none⟩) (Nat.le_refl _) (Nat.lt_succ_self _) _
            have zs3 : u2.heap.size ≤ u3.heap.size := hk3.size
            have hlo3 := HBl2.out.size
            have HBl3 : Hid (Below wr.heap.size wr u3) := Lib.hid (HBl2.out.trans ((hk3.to_below (by have := HX_b2.out.lt; omega)).mono (by omega)))
            have HX_b3 : Hid (Bx u3 u0.heap.size #[.int .i64 bk, .int .i64 t0, .int .i64 t1] 54) := Lib.hid (by have := (((HX_b2.out).set 0 (.int .i64 bk)).set 1 (.int .i64 t0)).set 2 (.int .i64 t1); rw [hw3.out] at this; exact this)
            clear hHeld hw3 hk3 hlo3 xc0 xf0 xc1 xf1 xc2 xf2 HBl2 HX_b2
            refine hK.out _ _ ⟨((HBl3.out.cell (p := (a.add k)) hba).trans HKA.out), ((HBl3.out.cell (p := (b.add J)) hbb1).trans HTA.out), ((HBl3.out.cell (p := ⟨b.block, b.off + (J + 1), none⟩) hbb2).trans HTB.out)⟩ (fun hHeld => ?_)
            clear hK K
            try simp only [Act.put]
            refine wpAnyH_take (i := 21) (oi := { dst := some 16, op := Op.assign (Operand.tmp 66), type := 4, pos := "l15_either.go:28", after := #[{ on := 18, ground := Ground.data }, { on := 20, ground := Ground.chain }, { on := 0, ground := Ground.phase }, { on := 1, ground := Ground.phase }, { on := 2, ground := Ground.phase }, { on := 3, ground := Ground.phase }, { on := 4, ground := Ground.phase }, { on := 5, ground := Ground.phase }, { on := 6, ground := Ground.phase }, { on := 7, ground := Ground.phase }, { on := 8, ground := Ground.phase }, { on := 9, ground := Ground.phase }, { on := 10, ground := Ground.phase }, { on := 11, ground := Ground.phase }, { on := 12, ground := Ground.phase }, { on := 13, ground := Ground.phase }, { on := 14, ground := Ground.phase }, { on := 15, ground := Ground.phase }, { on := 16, ground := Ground.phase }, { on := 17, ground := Ground.phase }, { on := 18, ground := Ground.phase }, { on := 19, ground := Ground.phase }, { on := 20, ground := Ground.phase }], guard := none }) (v := ?_) rfl (by kernel_rfl) (by kernel_rfl) (by kernel_rfl) (fun _ _ _ h => h) (Or.inl ⟨by rfl, ?_⟩) hHeld ?_
            rotate_left
            · intro w hSw; obtain ⟨s0, s1, s2⟩ := hSw; (try dsimp only at hSw); go_simp; (try with_reducible rfl)
            try simp only [Act.put, List.setIfInBounds_toArray, List.set_cons_zero, List.set_cons_succ]
            refine wpAnyH_done (by kernel_rfl) ?_ _
            have HBu : Hid (Below w.heap.size w u3) := Lib.hid (HBw.out.trans (HBl3.out.mono hzw))
            have HOu := Lib.hid (ownsRow_below HO.out HBl3.out)
            have x0 : u3.cell? ⟨u0.heap.size, 0, none⟩ = some (.int .i64 bk) := HX_b3.out.cell 0
            have x1 : u3.cell? ⟨u0.heap.size, 1, none⟩ = some (.int .i64 t0) := HX_b3.out.cell 1
            have x2 : u3.cell? ⟨u0.heap.size, 2, none⟩ = some (.int .i64 t1) := HX_b3.out.cell 2
            have hta := (HBl3.out.cell (p := b.add J) hbb1).trans HTA.out
            have HOl := Lib.hid (HOu.out.alloc (.cells #[.int .i64 bk, .int .i64 t0, .int .i64 t1] 54))
            have HLP : Hid (Rd (u3.alloc (.cells #[.int .i64 bk, .int .i64 t0, .int .i64 t1] 54)) (u3.heap.size + 1) 3 (some ⟨u3.heap.size, 0, none⟩) 1 (cProof [(bk, t0, t1)])) := Lib.hid (lit3_at (heap_alloc_new _ _))
            clear HBl3 HX_b3 HO HBw
            by_cases hkq : k = q
            · have e1 : ((k : Int) != (q : Int)) = false := by rw [hkq]; simp
              have e2 : (k : Int) = (q : Int) := by omega
              rw [if_pos hkq] at HRS
              have HRF : Hid (re = restK tp q ch (k + 1)) := Lib.hid HRS.out.symm
              clear hkq
              go_wp2_with (at_builtin
                           refine wpList_append_rd rfl (.tmp 77) (.tmp 79) _ rfl w.heap.size 54 _ 3 24 Try.underlying23 info_Proof rfl (by decide) (.slice Ao k co) k (cProof (othL ks tp k)) rfl HOl.out _ _ 1 1 (cProof [(bk, t0, t1)]) rfl HLP.out (cProof_one _) (by unfold maxLen; omega) (by omega) (by have := HBu.out.size; simp; omega) ?_
                           intro v6 w6 hown hgr hat
                           obtain ⟨A6, c6, hv6, ho6⟩ := Ow.of_own hown
                           subst hv6
                           have HO6 : Hid (w6.ownsRow w.heap.size 54 3 (.slice A6 (k + 1) c6) (k + 1) (cProof (othL ks tp (k + 1)))) := Lib.hid (by rw [HOT.out, cProof_app]; exact hown)
                           have HB6 : Hid (Below w.heap.size w w6) := Lib.hid (below_grown (HBu.out.alloc HBu.out.size _) hgr (fun g e => own_ge HOu.out e) (by have := HBu.out.size; simp; omega))
                           clear hown hgr hat ho6)
              go_roundw
              case rel => exact ⟨k + 1, A6, c6, re, by omega, by go_num, rfl, rfl, re0, re1, HRF, HO6, HB6⟩
              case measure => simp [intOf] <;> omega
            · have e2 : ¬ (k : Int) = (q : Int) := by omega
              have e1 : ((k : Int) != (q : Int)) = true := by rw [bne_iff_ne]; exact e2
              rw [if_neg hkq] at HRS
              have HRF : Hid ((re - t0) % 113 = restK tp q ch (k + 1)) := Lib.hid HRS.out.symm
              clear hkq
              go_wp2_with fail
              refine (s_l1Sub re t0 _ re0 re1 t00 t01).mono ?_
              rintro e w' ⟨rfl, rfl⟩
              go_wp2_with (at_builtin
                           refine wpList_append_rd rfl (.tmp 77) (.tmp 79) _ rfl w.heap.size 54 _ 3 24 Try.underlying23 info_Proof rfl (by decide) (.slice Ao k co) k (cProof (othL ks tp k)) rfl HOl.out _ _ 1 1 (cProof [(bk, t0, t1)]) rfl HLP.out (cProof_one _) (by unfold maxLen; omega) (by omega) (by have := HBu.out.size; simp; omega) ?_
                           intro v6 w6 hown hgr hat
                           obtain ⟨A6, c6, hv6, ho6⟩ := Ow.of_own hown
                           subst hv6
                           have HO6 : Hid (w6.ownsRow w.heap.size 54 3 (.slice A6 (k + 1) c6) (k + 1) (cProof (othL ks tp (k + 1)))) := Lib.hid (by rw [HOT.out, cProof_app]; exact hown)
                           have HB6 : Hid (Below w.heap.size w w6) := Lib.hid (below_grown (HBu.out.alloc HBu.out.size _) hgr (fun g e => own_ge HOu.out e) (by have := HBu.out.size; simp; omega))
                           clear hown hgr hat ho6)
              go_roundw
              case rel => exact ⟨k + 1, A6, c6, (re - t0) % 113, by omega, by go_num, rfl, rfl, by omega, by omega, HRF, HO6, HB6⟩
              case measure => simp [intOf] <;> omega
          exact AllReadyH.nil
        exact AllReadyH.nil
      exact AllReadyH.nil
    · obtain rfl : n = k := by omega
      obtain ⟨A2, c2, hv2, ho2⟩ := Ow.of_own HO.out
      injection hv2 with hv2 _ hv3
      subst hv2 hv3
      obtain ⟨g, cs, hAo, hg1, hg2, _, _⟩ := ho2.lt (by omega)
      subst hAo
      have HOw := Lib.hid ho2
      clear ho2 HO
      obtain ⟨Q, hQ⟩ : ∃ Q, Hid (Q = 2 * q) := ⟨_, Lib.hid rfl⟩
      obtain ⟨b, t0, rfl, hbb, ht0, HT0⟩ := H1.out.intAt (show Q < 2 * n by have := hQ.out; omega)
      have tb0 := numsB_at5 HNU.out (k := Q) (by have := HL1.out; have := hQ.out; omega)
      rw [← HT0.out] at tb0
      obtain ⟨t00, t01⟩ := tb0
      have hta := (HBw.out.cell (p := b.add Q) (by rw [add_block]; exact hbb)).trans ht0
      have iw : IntKind.i64.wrap (2 * (q : Int)) = (Q : Int) := by rw [hQ.out]; exact IntWalk.i64_in _ (by omega)
      have i2 : (0 : Int) ≤ (Q : Int) := by omega
      have i3 : (Q : Int) < 2 * (n : Int) := by have := hQ.out; omega
      have i6 : (0 : Int) ≤ (q : Int) := by omega
      have i7 : (q : Int) < (n : Int) := by omega
      obtain ⟨p0, hp0⟩ : ∃ v, Hid (powI 4 t0 227 = v) := ⟨_, Lib.hid rfl⟩
      obtain ⟨p2, hp2⟩ : ∃ v, Hid ((t0 + re * s) % 113 = v) := ⟨_, Lib.hid rfl⟩
      have HMK := fun W => Lib.hid (s_make s t0 re W s0 s1 t00 t01 re0 re1)
      simp only [hp0.out, hp2.out] at HMK
      have HFL : Hid (R_EitherMake_0 ks (q : Int) s ch tp = (othL ks tp n).set q (p0, re, p2)) := Lib.hid (by
        rw [HF.out.2]; unfold emakeL ownP; rw [HL.out, ← HRE.out, ← hQ.out, ← HT0.out, hp0.out, hp2.out]; rfl)
      have HF1 := Lib.hid HF.out.1
      clear ht0 HT0 hp0 hp2 HRE HF hQ
      go_wp2_with fail
      refine (HMK _).out.mono ?_
      rintro e w3 ⟨rfl, hb3⟩
      have hzw := HBw.out.size
      have HO3 := Lib.hid (HOw.out.below hb3 (Nat.le_refl _))
      have HB3 : Hid (Below w.heap.size w w3) := Lib.hid (HBw.out.trans (hb3.mono hzw))
      have hz3 := hb3.size
      clear hb3 HOw HBw HMK hta
      have hlt2 : q * 3 + 2 < n * 3 := by omega
      have hlen2 : (cProof (othL ks tp n)).length = n * 3 := HO3.out.1
      obtain ⟨u0, hu0⟩ : ∃ u, w3.cell? ⟨g, q * 3, none⟩ = some u := ⟨_, HO3.out.cellAt (List.getElem?_eq_getElem (by omega))⟩
      obtain ⟨u1, hu1⟩ : ∃ u, w3.cell? ⟨g, q * 3 + 1, none⟩ = some u := ⟨_, HO3.out.cellAt (List.getElem?_eq_getElem (by omega))⟩
      obtain ⟨u2, hu2⟩ : ∃ u, w3.cell? ⟨g, q * 3 + 2, none⟩ = some u := ⟨_, HO3.out.cellAt (List.getElem?_eq_getElem (by omega))⟩
      have hf0 := HO3.out.free (by omega) (q * 3)
      have hf1 := HO3.out.free (by omega) (q * 3 + 1)
      have hf2 := HO3.out.free (by omega) (q * 3 + 2)
      obtain ⟨w4, hw4⟩ : ∃ W, Hid (((w3.setCell ⟨g, q * 3, none⟩ (.int .i64 p0)).setCell ⟨g, q * 3 + 1, none⟩ (.int .i64 re)).setCell ⟨g, q * 3 + 2, none⟩ (.int .i64 p2) = W) := ⟨_, Lib.hid rfl⟩
      have HB4 : Hid (Below w.heap.size w w4) := Lib.hid (by rw [← hw4.out]; exact ((HB3.out.setCell (p := ⟨g, q * 3, none⟩) hg1 _).setCell (p := ⟨g, q * 3 + 1, none⟩) hg1 _).setCell (p := ⟨g, q * 3 + 2, none⟩) hg1 _)
      have HO4 : Hid (OwProofS w4 w.heap.size w4.heap.size (.slice (some ⟨g, 0, none⟩) n co) (R_EitherMake_0 ks (q : Int) s ch tp)) := Lib.hid (by
        have h0 := HO3.out.setProof (k := q) p0 re p2
        rw [hw4.out, ← HFL.out] at h0
        have hz : wr.heap.size ≤ w4.heap.size := by rw [← hw4.out]; simp only [World.size_setCell]; exact hz3
        exact ⟨by have := h0.Prooflen; omega, _, _, _, rfl, h0.widen (Nat.le_refl _) hz⟩)
      clear HO3 HB3 hlen2
      go_wp2
      rw [hw4.out]
      go_ret2
      exact ⟨_, ret_vb5 HF1.out, HO4.out, HB4.out⟩
end Go.Proofs.Ytdhakbpimbadgaa

/- Chapter 15: the program's iterator over the proofs that are feigned. Made by tools/gen15/p.py. -/
namespace Go.Proofs.Ytdhakbpimbadgaa
open Go.RowKit Go.Shelf
set_option maxRecDepth 100000
attribute [local go_sem] Oper.semAt_some

/-- the indexes of all keys but one -/
def othF (n q : Nat) : Nat → List (Fin n)
  | 0 => []
  | k + 1 => if h : k < n ∧ k ≠ q then othF n q k ++ [⟨k, h.1⟩] else othF n q k
theorem othF_same (n q : Nat) : othF n q (q + 1) = othF n q q := by
  rw [othF, dif_neg (fun h => h.2 rfl)]
theorem othF_succ (n q k : Nat) (h : k < n) (hq : k ≠ q) : othF n q (k + 1) = othF n q k ++ [⟨k, h⟩] := by
  rw [othF, dif_pos ⟨h, hq⟩]
theorem othF_len (n q k : Nat) : (othF n q k).length ≤ k := by
  induction k with
  | zero => simp [othF]
  | succ k ih =>
    unfold othF
    split
    · rw [List.length_append]; exact Nat.succ_le_succ ih
    · exact Nat.le_succ_of_le ih
def encO (x : Nat × Pf) : Array Value := #[.int .i64 x.1, .agg #[.int .i64 x.2.1, .int .i64 x.2.2.1, .int .i64 x.2.2.2]]
/-- what a round keeps: old memory, and the iterator's boxes -/
def KpP (n₀ : Nat) (H : World → Prop) (W W' : World) : Prop := Below n₀ W W' ∧ (H W → H W')
theorem KpP_t {n₀ : Nat} {H : World → Prop} {A B C : World} (h : KpP n₀ H A B) (k : KpP n₀ H B C) : KpP n₀ H A C := ⟨h.1.trans k.1, fun x => k.2 (h.2 x)⟩
/-- the iterator's boxes: tape, index, closure -/
def OBx (Bt Bo Bf : Nat) (tv : Value) (q : Nat) (fv : Value) (W : World) : Prop := Bx W Bt #[tv] 22 ∧ Bx W Bo #[.int .i64 q] 3 ∧ Bx W Bf #[fv] 109
theorem bx_putObj {W : World} {b l : Nat} {cs : Array Value} {e : TypeId} {o o' : Obj} (h : Bx W b cs e) (hl : W.heap[l]? = some o) (hc : o.isCells = false) : Bx (W.putObj l o') b cs e := by
  by_cases e : b = l
  · subst e; rw [show W.heap[b]? = _ from h] at hl; cases hl; cases hc
  · exact (World.putObj_heap_other (fun e' => e e')).trans h
theorem KpP_b {n₀ Bt Bo Bf q : Nat} {tv fv : Value} {w : World} (hn : n₀ ≤ w.heap.size) (W : World) (l : Nat) (o o' : Obj) (hl : w.heap.size ≤ l) (h : W.heap[l]? = some o) (hc : o.isCells = false) (hw : o.isWalk = false) : KpP n₀ (OBx Bt Bo Bf tv q fv) W (W.putObj l o') :=
  ⟨belowK_b hn W l o o' hl h hc hw, fun hb => ⟨bx_putObj hb.1 h hc, bx_putObj hb.2.1 h hc, bx_putObj hb.2.2 h hc⟩⟩
theorem OBx.grown {Bt Bo Bf q : Nat} {tv fv : Value} {W W' : World} (h : OBx Bt Bo Bf tv q fv W) (hb : Below W.heap.size W W') : OBx Bt Bo Bf tv q fv W' := ⟨h.1.below hb h.1.lt, h.2.1.below hb h.2.1.lt, h.2.2.below hb h.2.2.lt⟩
theorem grown_of_below15 {w w' : World} (h : Below w.heap.size w w') : w.grownBy w' none := ⟨h.os, h.tape, h.output, h.size, fun k hk _ => h.block k hk⟩

set_option maxHeartbeats 4000000 in
theorem i_it_oth (Bk Bt Bo Bf l n₀ n q m nt ct : Nat) (At : Option Addr) (ks tp : List Int) (hm : 1 ≤ m) (w0 : World)
    (hF : ∀ W k c r, Below n₀ w0 W → k < n → 0 ≤ c → c ≤ 112 → 0 ≤ r → r ≤ 112 → Calls Try.prog 46 #[.int .i64 (k : Nat), .agg #[.int .i64 c, .int .i64 r], .pointer (some ⟨Bk, 0, none⟩)] W fun e W' => e = .returned (.agg #[.int .i64 (backI 4 (ks.getD k 0) r c), .int .i64 c, .int .i64 r]) ∧ Below W.heap.size W W')
    (hn : n ≤ 6) (hnt : nt = 2 * n) (hT : Rd w0 n₀ 1 At nt (cI tp)) (hN : numsB tp = true) (J Jx : List (Fin n) → World → Prop) (W : World) (hJ : AbidesFrom W.heap.size J)
    (hY : ∀ pre x W1, J pre W1 → pre.length < n → YieldAt Fence.wide (m - 1) Try.prog l (encO (x.1, otherP ks tp x.1)) W1 fun e W' =>
      (e = .returned (.bool true) ∧ J (pre ++ [x]) W' ∧ KpP n₀ (OBx Bt Bo Bf (.slice At nt ct) q (.func (.func 46) #[] #[.pointer (some ⟨Bk, 0, none⟩)])) W1 W') ∨ (e = .returned (.bool false) ∧ Jx (pre ++ [x]) W'))
    (hB : OBx Bt Bo Bf (.slice At nt ct) q (.func (.func 46) #[] #[.pointer (some ⟨Bk, 0, none⟩)]) W) (hn₀ : n₀ ≤ W.heap.size) (hbel : Below n₀ w0 W) (h0 : J [] W) :
    CallsIn Fence.wide m Try.prog 111 #[.func (.yield l) #[] #[], .pointer (some ⟨Bt, 0, none⟩), .pointer (some ⟨Bo, 0, none⟩), .pointer (some ⟨Bf, 0, none⟩)] W fun e W' => (∃ v, e = .returned v) ∧
      ((∃ ys, ys = othF n q n ∧ J ys W') ∨ (∃ pre, True ∧ Jx pre W')) := by
  have hm1 : 1 ≤ m := hm
  have HTP := Lib.hid hT
  have HNT := Lib.hid hnt
  have HLT : Hid (tp.length = nt) := Lib.hid hT.len
  have HNU := Lib.hid hN
  have HFF := Lib.hid hF
  have HYY := Lib.hid hY
  have hquo : (nt : Int).tdiv 2 = (n : Int) := by rw [Int.tdiv_eq_ediv_of_nonneg (by omega)]; omega
  have ct0 : W.cell? ⟨Bt, 0, none⟩ = some (.slice At nt ct) := hB.1.cell 0
  clear hT hnt hN hF hY
  refine callsIn_of_wp Try.func111 rfl trivial ?_ rfl
  simp only [Try.ntmps111, List.size_toArray, List.length_cons, List.length_nil, Nat.reduceAdd, Nat.reduceSub, Array.replicate_succ, Array.replicate_zero, List.push_toArray, List.append_toArray, List.nil_append, List.cons_append]
  gi_wp2
  gi_loopw [10] (fun i wr => ∃ k : Nat, k ≤ n ∧ i = .int .i64 k ∧ J (othF n q k) wr ∧ Hid (Below n₀ w0 wr) ∧ Hid (n₀ ≤ wr.heap.size) ∧ Hid (OBx Bt Bo Bf (.slice At nt ct) q (.func (.func 46) #[] #[.pointer (some ⟨Bk, 0, none⟩)]) wr))
    (fun i _ => n - (intOf i).toNat)
  case atStart => exact ⟨0, Nat.zero_le _, rfl, h0, Lib.hid hbel, Lib.hid hn₀, Lib.hid hB⟩
  case round =>
    obtain ⟨k, hk, rfl, hJs, HBL, HZ, HBS⟩ := hrel
    by_cases hlt : k < n
    · have i0 : (0 : Int) ≤ (k : Int) := by omega
      have i1 : (k : Int) < (n : Int) := by omega
      have co : wr.cell? ⟨Bo, 0, none⟩ = some (.int .i64 q) := HBS.out.2.1.cell 0
      by_cases hkq : k = q
      · have e1 : ((k : Int) == (q : Int)) = true := by simp [hkq]
        have e2 : (k : Int) = (q : Int) := by omega
        have HS : Hid (othF n q (k + 1) = othF n q k) := Lib.hid (by rw [hkq]; exact othF_same n q)
        clear hkq
        gi_wp2
        go_roundw
        case rel => exact ⟨k + 1, by omega, by go_num, by rw [HS.out]; exact hJs, HBL, HZ, HBS⟩
        case measure => simp [intOf] <;> omega
      · have e2 : ¬ (k : Int) = (q : Int) := by omega
        have e1 : ((k : Int) == (q : Int)) = false := by rw [beq_eq_false_iff_ne]; exact e2
        have HS : Hid (othF n q (k + 1) = othF n q k ++ [⟨k, hlt⟩]) := Lib.hid (othF_succ n q k hlt hkq)
        clear hkq
        obtain ⟨J2, HJ⟩ : ∃ J2, Hid (J2 = 2 * k) := ⟨_, Lib.hid rfl⟩
        have hJ0 : J2 < nt := by have := HJ.out; have := HNT.out; omega
        have hJ1 : J2 + 1 < nt := by have := HJ.out; have := HNT.out; omega
        obtain ⟨b, t0, rfl, hbb, ht0, HT0⟩ := HTP.out.intAt hJ0
        obtain ⟨b2, t1, eb, _, ht1, HT1⟩ := HTP.out.intAt hJ1
        injection eb with eb
        subst eb
        rw [add_succ5] at ht1
        have hzw := HZ.out
        have hbb1 : (b.add J2).block < wr.heap.size := by rw [add_block]; omega
        have hbb2 : b.block < wr.heap.size := by omega
        have HTA := Lib.hid ((HBL.out.cell (p := b.add J2) (by rw [add_block]; exact hbb)).trans ht0)
        have HTB := Lib.hid ((HBL.out.cell (p := ⟨b.block, b.off + (J2 + 1), none⟩) hbb).trans ht1)
        have tb0 := numsB_at5 HNU.out (k := J2) (by have := HLT.out; omega)
        have tb1 := numsB_at5 HNU.out (k := J2 + 1) (by have := HLT.out; omega)
        rw [← HT0.out] at tb0
        rw [← HT1.out] at tb1
        obtain ⟨t00, t01⟩ := tb0
        obtain ⟨t10, t11⟩ := tb1
        have HOP : Hid (otherP ks tp k = (backI 4 (ks.getD k 0) t1 t0, t0, t1)) := Lib.hid (by rw [otherP, ← HJ.out, ← HT0.out, ← HT1.out])
        have iw : IntKind.i64.wrap (2 * (k : Int)) = (J2 : Int) := by
          have := HJ.out
          have e : (J2 : Int) = 2 * (k : Int) := by omega
          rw [e]; exact IntWalk.i64_in _ (by omega)
        have iw2 : IntKind.i64.wrap ((J2 : Int) + 1) = (J2 : Int) + 1 := IntWalk.i64_in _ (by have := HNT.out; omega)
        have it2 : ((J2 : Int) + 1).toNat = J2 + 1 := by omega
        have i2 : (0 : Int) ≤ (J2 : Int) := by omega
        have i3 : (J2 : Int) < (nt : Int) := by omega
        have i4 : (0 : Int) ≤ (J2 : Int) + 1 := by omega
        have i5 : (J2 : Int) + 1 < (nt : Int) := by omega
        have HB : Hid (Below wr.heap.size wr wr) := Lib.hid (Below.refl _ _)
        have HX_tp : Hid (Bx wr Bt #[.slice (some b) nt ct] 22) := Lib.hid HBS.out.1
        have hBt := HX_tp.out.lt
        have HF4 : Hid (∀ W, Below n₀ w0 W → Calls Try.prog 46 #[.int .i64 (k : Nat), .agg #[.int .i64 t0, .int .i64 t1], .pointer (some ⟨Bk, 0, none⟩)] W fun e W' => e = .returned (.agg #[.int .i64 (backI 4 (ks.getD k 0) t1 t0), .int .i64 t0, .int .i64 t1]) ∧ Below W.heap.size W W') := Lib.hid (fun W hb => HFF.out W k t0 t1 hb hlt t00 t01 t10 t11)
        obtain ⟨bk, hbk⟩ : ∃ v, Hid (backI 4 (ks.getD k 0) t1 t0 = v) := ⟨_, Lib.hid rfl⟩
        rw [hbk.out] at HF4 HOP
        clear ht0 ht1 HT0 HT1 hJ0 hJ1 hbk HFF
        gi_upto_region 4 with (fail)
        clear co ct0
        refine wpIn_wide.2 ?_
        refine wp_region_held_drew (S := fun w' => w'.cell? ⟨Bt, 0, none⟩ = some (.slice (some b) nt ct) ∧ w'.cell? (b.add J2) = some (.int .i64 t0) ∧ w'.cell? ⟨b.block, b.off + (J2 + 1), none⟩ = some (.int .i64 t1)) (by kernel_rfl) ⟨HX_tp.out.cell 0, (HB.out.cell (p := (b.add J2)) hbb1).trans HTA.out, (HB.out.cell (p := ⟨b.block, b.off + (J2 + 1), none⟩) hbb2).trans HTB.out⟩ (fun hHeld => ?_)
        obtain ⟨u0, hu0⟩ : ∃ u0, Hid (wr.drew = u0) := ⟨_, Lib.hid rfl⟩
        rw [hu0.out] at hHeld ⊢
        have zs0 : wr.heap.size = u0.heap.size := by rw [← hu0.out]; rfl
        replace zs0 := Nat.le_of_eq zs0
        have HBl0 : Hid (Below wr.heap.size wr u0) := Lib.hid (by rw [← hu0.out]; exact HB.out.drew)
        have HX_tp0 : Hid (Bx u0 Bt #[.slice (some b) nt ct] 22) := Lib.hid (by rw [← hu0.out]; exact HX_tp.out)
        clear hu0
        refine wpAnyH_take (i := 0) (oi := { dst := some 16, op := Op.load 22 (Operand.tmp 1), type := 22, pos := "l15_either.go:34", after := #[], guard := none }) (v := ?_) rfl (by kernel_rfl) (by kernel_rfl) (by kernel_rfl) (fun _ _ _ h => h) (Or.inl ⟨by rfl, ?_⟩) hHeld ?_
        rotate_left
        · intro w hSw; obtain ⟨s0, s1, s2⟩ := hSw; (try dsimp only at hSw); go_simp; (try with_reducible rfl)
        try simp only [Act.put, List.setIfInBounds_toArray, List.set_cons_zero, List.set_cons_succ]
        refine wpAnyH_take (i := 1) (oi := { dst := some 17, op := Op.move (Operand.tmp 5), type := 3, pos := "l15_either.go:34", after := #[], guard := none }) (v := ?_) rfl (by kernel_rfl) (by kernel_rfl) (by kernel_rfl) (fun _ _ _ h => h) (Or.inl ⟨by rfl, ?_⟩) hHeld ?_
        rotate_left
        · intro w hSw; obtain ⟨s0, s1, s2⟩ := hSw; (try dsimp only at hSw); go_simp; (try with_reducible rfl)
        try simp only [Act.put, List.setIfInBounds_toArray, List.set_cons_zero, List.set_cons_succ]
        refine wpAnyH_take (i := 2) (oi := { dst := some 18, op := Op.binOp BinOp.mul 3 (Operand.const (Value.int IntKind.i64 2)) (Operand.tmp 17) 3, type := 3, pos := "l15_either.go:34", after := #[{ on := 1, ground := Ground.data }], guard := none }) (v := ?_) rfl (by kernel_rfl) (by kernel_rfl) (by kernel_rfl) (fun _ _ _ h => h) (Or.inl ⟨by rfl, ?_⟩) hHeld ?_
        rotate_left
        · intro w hSw; obtain ⟨s0, s1, s2⟩ := hSw; (try dsimp only at hSw); go_simp; (try with_reducible rfl)
        try simp only [Act.put, List.setIfInBounds_toArray, List.set_cons_zero, List.set_cons_succ]
        refine wpAnyH_take (i := 3) (oi := { dst := some 19, op := Op.indexAddr 22 (Operand.tmp 16) (Operand.tmp 18), type := 0, pos := "l15_either.go:34", after := #[{ on := 0, ground := Ground.data }, { on := 2, ground := Ground.data }], guard := none }) (v := ?_) rfl (by kernel_rfl) (by kernel_rfl) (by kernel_rfl) (fun _ _ _ h => h) (Or.inl ⟨by rfl, ?_⟩) hHeld ?_
        rotate_left
        · intro w hSw; obtain ⟨s0, s1, s2⟩ := hSw; (try dsimp only at hSw); go_simp; (try with_reducible rfl)
        try simp only [Act.put, List.setIfInBounds_toArray, List.set_cons_zero, List.set_cons_succ]
        refine wpAnyH_take (i := 4) (oi := { dst := some 20, op := Op.load 3 (Operand.tmp 19), type := 3, pos := "l15_either.go:34", after := #[{ on := 3, ground := Ground.data }], guard := none }) (v := ?_) rfl (by kernel_rfl) (by kernel_rfl) (by kernel_rfl) (fun _ _ _ h => h) (Or.inl ⟨by rfl, ?_⟩) hHeld ?_
        rotate_left
        · intro w hSw; obtain ⟨s0, s1, s2⟩ := hSw; (try dsimp only at hSw); go_simp; (try with_reducible rfl)
        try simp only [Act.put, List.setIfInBounds_toArray, List.set_cons_zero, List.set_cons_succ]
        refine wpAnyH_take (i := 5) (oi := { dst := some 21, op := Op.load 22 (Operand.tmp 1), type := 22, pos := "l15_either.go:34", after := #[], guard := none }) (v := ?_) rfl (by kernel_rfl) (by kernel_rfl) (by kernel_rfl) (fun _ _ _ h => h) (Or.inl ⟨by rfl, ?_⟩) hHeld ?_
        rotate_left
        · intro w hSw; obtain ⟨s0, s1, s2⟩ := hSw; (try dsimp only at hSw); go_simp; (try with_reducible rfl)
        try simp only [Act.put, List.setIfInBounds_toArray, List.set_cons_zero, List.set_cons_succ]
        refine wpAnyH_take (i := 6) (oi := { dst := some 22, op := Op.move (Operand.tmp 5), type := 3, pos := "l15_either.go:34", after := #[], guard := none }) (v := ?_) rfl (by kernel_rfl) (by kernel_rfl) (by kernel_rfl) (fun _ _ _ h => h) (Or.inl ⟨by rfl, ?_⟩) hHeld ?_
        rotate_left
        · intro w hSw; obtain ⟨s0, s1, s2⟩ := hSw; (try dsimp only at hSw); go_simp; (try with_reducible rfl)
        try simp only [Act.put, List.setIfInBounds_toArray, List.set_cons_zero, List.set_cons_succ]
        refine wpAnyH_take (i := 7) (oi := { dst := some 23, op := Op.binOp BinOp.mul 3 (Operand.const (Value.int IntKind.i64 2)) (Operand.tmp 22) 3, type := 3, pos := "l15_either.go:34", after := #[{ on := 6, ground := Ground.data }], guard := none }) (v := ?_) rfl (by kernel_rfl) (by kernel_rfl) (by kernel_rfl) (fun _ _ _ h => h) (Or.inl ⟨by rfl, ?_⟩) hHeld ?_
        rotate_left
        · intro w hSw; obtain ⟨s0, s1, s2⟩ := hSw; (try dsimp only at hSw); go_simp; (try with_reducible rfl)
        try simp only [Act.put, List.setIfInBounds_toArray, List.set_cons_zero, List.set_cons_succ]
        refine wpAnyH_take (i := 8) (oi := { dst := some 24, op := Op.binOp BinOp.add 3 (Operand.tmp 23) (Operand.const (Value.int IntKind.i64 1)) 3, type := 3, pos := "l15_either.go:34", after := #[{ on := 7, ground := Ground.data }], guard := none }) (v := ?_) rfl (by kernel_rfl) (by kernel_rfl) (by kernel_rfl) (fun _ _ _ h => h) (Or.inl ⟨by rfl, ?_⟩) hHeld ?_
        rotate_left
        · intro w hSw; obtain ⟨s0, s1, s2⟩ := hSw; (try dsimp only at hSw); go_simp; (try with_reducible rfl)
        try simp only [Act.put, List.setIfInBounds_toArray, List.set_cons_zero, List.set_cons_succ]
        refine wpAnyH_take (i := 9) (oi := { dst := some 25, op := Op.indexAddr 22 (Operand.tmp 21) (Operand.tmp 24), type := 0, pos := "l15_either.go:34", after := #[{ on := 5, ground := Ground.data }, { on := 8, ground := Ground.data }], guard := none }) (v := ?_) rfl (by kernel_rfl) (by kernel_rfl) (by kernel_rfl) (fun _ _ _ h => h) (Or.inl ⟨by rfl, ?_⟩) hHeld ?_
        rotate_left
        · intro w hSw; obtain ⟨s0, s1, s2⟩ := hSw; (try dsimp only at hSw); go_simp; (try with_reducible rfl)
        try simp only [Act.put, List.setIfInBounds_toArray, List.set_cons_zero, List.set_cons_succ]
        refine wpAnyH_take (i := 10) (oi := { dst := some 26, op := Op.load 3 (Operand.tmp 25), type := 3, pos := "l15_either.go:34", after := #[{ on := 9, ground := Ground.data }], guard := none }) (v := ?_) rfl (by kernel_rfl) (by kernel_rfl) (by kernel_rfl) (fun _ _ _ h => h) (Or.inl ⟨by rfl, ?_⟩) hHeld ?_
        rotate_left
        · intro w hSw; obtain ⟨s0, s1, s2⟩ := hSw; (try dsimp only at hSw); go_simp; (try with_reducible rfl)
        try simp only [Act.put, List.setIfInBounds_toArray, List.set_cons_zero, List.set_cons_succ]
        refine wpAnyH_take (i := 11) (oi := { dst := some 27, op := Op.build 64 #[(0, Operand.tmp 20), (1, Operand.tmp 26)], type := 64, pos := "l15_either.go:34", after := #[{ on := 4, ground := Ground.data }, { on := 10, ground := Ground.data }], guard := none }) (v := ?_) rfl (by kernel_rfl) (by kernel_rfl) (by kernel_rfl) (fun _ _ _ h => h) (Or.inl ⟨by rfl, ?_⟩) hHeld ?_
        rotate_left
        · intro w hSw; obtain ⟨s0, s1, s2⟩ := hSw; (try dsimp only at hSw); go_simp; (try with_reducible rfl)
        try simp only [Act.put, List.setIfInBounds_toArray, List.set_cons_zero, List.set_cons_succ]
        refine wpAnyH_ready (rs := [12]) (by kernel_rfl) (by simp) ?_
        refine AllReadyH.cons (o := { dst := some 6, op := Op.alloc 64, type := 0, pos := "l15_either.go:34", after := #[], guard := none }) rfl (fun K hK => ?_) ?_
        · go_simp
          obtain ⟨u1, hw1⟩ : ∃ W, Hid (u0.alloc (.cells #[.int .i64 0, .int .i64 0] 64) = W) := ⟨_, Lib.hid rfl⟩
          rw [hw1.out]
          have zs1 : u0.heap.size < u1.heap.size := by rw [← hw1.out, World.size_alloc]; omega
          have HBl1 : Hid (Below wr.heap.size wr u1) := Lib.hid (by rw [← hw1.out]; exact HBl0.out.alloc HBl0.out.size _)
          have HX_tp1 : Hid (Bx u1 Bt #[.slice (some b) nt ct] 22) := Lib.hid (by rw [← hw1.out]; exact HX_tp0.out.alloc _)
          have HX_an1 : Hid (Bx u1 u0.heap.size #[.int .i64 0, .int .i64 0] 64) := Lib.hid (by rw [← hw1.out]; exact Bx.new _ _ _)
          have hab1 : Below u0.heap.size u0 u1 := by rw [← hw1.out]; exact (Below.refl _ _).alloc (Nat.le_refl _) _
          clear hHeld hw1 hab1 HBl0 HX_tp0
          refine hK.out _ _ ⟨HX_tp1.out.cell 0, ((HBl1.out.cell (p := (b.add J2)) hbb1).trans HTA.out), ((HBl1.out.cell (p := ⟨b.block, b.off + (J2 + 1), none⟩) hbb2).trans HTB.out)⟩ (fun hHeld => ?_)
          clear hK K
          try simp only [Act.put, List.setIfInBounds_toArray, List.set_cons_zero, List.set_cons_succ]
          refine wpAnyH_ready (rs := [13]) (by kernel_rfl) (by simp) ?_
          refine AllReadyH.cons (o := { dst := none, op := Op.store 64 (Operand.tmp 6) (Operand.tmp 27), type := 0, pos := "l15_either.go:34", after := #[{ on := 12, ground := Ground.data }, { on := 11, ground := Ground.data }, { on := 0, ground := Ground.phase }, { on := 1, ground := Ground.phase }, { on := 2, ground := Ground.phase }, { on := 3, ground := Ground.phase }, { on := 4, ground := Ground.phase }, { on := 5, ground := Ground.phase }, { on := 6, ground := Ground.phase }, { on := 7, ground := Ground.phase }, { on := 8, ground := Ground.phase }, { on := 9, ground := Ground.phase }, { on := 10, ground := Ground.phase }, { on := 11, ground := Ground.phase }, { on := 12, ground := Ground.phase }], guard := none }) rfl (fun K hK => ?_) ?_
          · have xc0 : u1.cell? ⟨u0.heap.size, 0, none⟩ = some (.int .i64 0) := HX_an1.out.cell 0
            have xf0 : u1.frozen? ⟨u0.heap.size, 0, none⟩ = false := HX_an1.out.free 0
            have xc1 : u1.cell? ⟨u0.heap.size, 1, none⟩ = some (.int .i64 0) := HX_an1.out.cell 1
            have xf1 : u1.frozen? ⟨u0.heap.size, 1, none⟩ = false := HX_an1.out.free 1
            go_simp
            obtain ⟨u2, hw2⟩ : ∃ W, Hid (((u1.setCell ⟨u0.heap.size, 0, none⟩ (.int .i64 t0)).setCell ⟨u0.heap.size, 1, none⟩ (.int .i64 t1)) = W) := ⟨_, Lib.hid rfl⟩
            rw [hw2.out]
            have hk2 : Kept (u0.heap.size) (u0.heap.size + 1) u1 u2 := by rw [← hw2.out]; exact ((Kept.refl _ _ _).setCell (p := ⟨u0.heap.size, 0, none⟩) (Nat.le_refl _) (Nat.lt_succ_self _) _).setCell (p := ⟨u0.heap.size, 1, none⟩) (Nat.le_refl _) (Nat.lt_succ_self _) _
            have zs2 : u1.heap.size ≤ u2.heap.size := hk2.size
            have hlo2 := HBl1.out.size
            have HBl2 : Hid (Below wr.heap.size wr u2) := Lib.hid (HBl1.out.trans ((hk2.to_below (by have := HX_an1.out.lt; omega)).mono (by omega)))
            have HX_an2 : Hid (Bx u2 u0.heap.size #[.int .i64 t0, .int .i64 t1] 64) := Lib.hid (by have := ((HX_an1.out).set 0 (.int .i64 t0)).set 1 (.int .i64 t1); rw [hw2.out] at this; exact this)
            have HX_tp2 : Hid (Bx u2 Bt #[.slice (some b) nt ct] 22) := Lib.hid (HX_tp1.out.kept hk2 (by have := HX_tp1.out.lt; have := HX_an1.out.lt; omega))
            clear hHeld hw2 hk2 hlo2 xc0 xf0 xc1 xf1 HBl1 HX_tp1 HX_an1
            refine hK.out _ _ ⟨HX_tp2.out.cell 0, ((HBl2.out.cell (p := (b.add J2)) hbb1).trans HTA.out), ((HBl2.out.cell (p := ⟨b.block, b.off + (J2 + 1), none⟩) hbb2).trans HTB.out)⟩ (fun hHeld => ?_)
            clear hK K
            try simp only [Act.put]
            refine wpAnyH_done (by kernel_rfl) ?_ _
            have x0 : u2.cell? ⟨u0.heap.size, 0, none⟩ = some (.int .i64 t0) := HX_an2.out.cell 0
            have x1 : u2.cell? ⟨u0.heap.size, 1, none⟩ = some (.int .i64 t1) := HX_an2.out.cell 1
            have hJu := hJ _ _ _ none hJs (grown_of_below15 HBl2.out) (fun r e => by cases e)
            have HBSu := Lib.hid (HBS.out.grown HBl2.out)
            have xf : u2.cell? ⟨Bf, 0, none⟩ = some _ := HBSu.out.2.2.cell 0
            have HBLu : Hid (Below n₀ w0 u2) := Lib.hid (HBL.out.trans (HBl2.out.mono HZ.out))
            have HZu : Hid (n₀ ≤ u2.heap.size) := Lib.hid (Nat.le_trans HZ.out HBl2.out.size)
            clear HBl2 HX_an2 HX_tp2 HBS HBL HZ hJs HTA HTB
            gi_wp2_with (refine ⟨trivial, ?_⟩
                         gi_at_call 46
                         refine (callsIn_wide.2 (HF4.out _ HBLu.out)).mono ?_
                         rintro e W1 ⟨rfl, hb1⟩
                         have hJ1 := hJ _ _ _ none hJu (grown_of_below15 hb1) (fun r e => by cases e)
                         have HBS1 := Lib.hid (HBSu.out.grown hb1)
                         have HBL1 : Hid (Below n₀ w0 W1) := Lib.hid (HBLu.out.trans (hb1.mono HZu.out))
                         have HZ1 : Hid (n₀ ≤ W1.heap.size) := Lib.hid (Nat.le_trans HZu.out hb1.size)
                         obtain ⟨fn, tmps, assign, body, hy, hR⟩ := HYY.out _ ⟨k, hlt⟩ W1 hJ1 (Nat.lt_of_le_of_lt (othF_len n q k) hlt)
                         simp only [encO, HOP.out] at hy
                         clear hb1 HBLu HZu HBSu hJu x0 x1 xf)
            refine hR.mono ?_
            rintro e W3 (⟨rfl, hJ3, hk3⟩ | ⟨rfl, hJx3⟩)
            · have HK3 := Lib.hid hk3
              clear hk3
              gi_wp2
              go_roundw
              case rel => exact ⟨k + 1, by omega, by go_num, by rw [HS.out]; exact hJ3, Lib.hid (HBL1.out.trans HK3.out.1), Lib.hid (Nat.le_trans HZ1.out HK3.out.1.size), Lib.hid (HK3.out.2 HBS1.out)⟩
              case measure => simp [intOf] <;> omega
            · gi_wp2
              refine bodyPost_ret (results_none rfl _ _ _) rfl ?_
              exact ⟨⟨_, rfl⟩, .inr ⟨_, trivial, hJx3⟩⟩
          exact AllReadyH.nil
        exact AllReadyH.nil
    · obtain rfl : k = n := by omega
      gi_wp2
      go_end0
      exact ⟨⟨_, rfl⟩, .inl ⟨_, rfl, hJs⟩⟩
end Go.Proofs.Ytdhakbpimbadgaa

/- Chapter 15: the list of proofs by a tape, over the closure that feigns. Made by tools/gen15/q.py. -/
namespace Go.Proofs.Ytdhakbpimbadgaa
open Go.RowKit Go.Shelf
set_option maxRecDepth 100000
attribute [local go_sem] Oper.semAt_some

/-- the list behind the rounds, and what is left of the challenge -/
def lstP (ks tp : List Int) (n : Nat) (pre : List (Fin n)) : List Pf := pre.foldl (fun L x => L.set x.1 (otherP ks tp x.1)) (List.replicate n (0, 0, 0))
def resP (tp : List Int) (n : Nat) (ch : Int) (pre : List (Fin n)) : Int := pre.foldl (fun c x => (c - tp.getD (2 * x.1) 0) % 113) ch
theorem lstP_snoc (ks tp : List Int) (n : Nat) (pre : List (Fin n)) (x : Fin n) : lstP ks tp n (pre ++ [x]) = (lstP ks tp n pre).set x.1 (otherP ks tp x.1) := by unfold lstP; rw [List.foldl_append]; rfl
theorem resP_snoc (tp : List Int) (n : Nat) (ch : Int) (pre : List (Fin n)) (x : Fin n) : resP tp n ch (pre ++ [x]) = (resP tp n ch pre - tp.getD (2 * x.1) 0) % 113 := by unfold resP; rw [List.foldl_append]; rfl
theorem lstP_len (ks tp : List Int) (n : Nat) (pre : List (Fin n)) : (lstP ks tp n pre).length = n := by
  suffices h : ∀ (l : List (Fin n)) (L : List Pf), L.length = n → (l.foldl (fun L x => L.set x.1 (otherP ks tp x.1)) L).length = n from h _ _ (by simp)
  intro l
  induction l with
  | nil => exact fun L h => h
  | cons x t ih => exact fun L h => ih _ (by rw [List.length_set]; exact h)
theorem resP_bd (tp : List Int) (n : Nat) (ch : Int) (h0 : 0 ≤ ch ∧ ch ≤ 112) (pre : List (Fin n)) : 0 ≤ resP tp n ch pre ∧ resP tp n ch pre ≤ 112 := by
  suffices h : ∀ (l : List (Fin n)) (c : Int), 0 ≤ c ∧ c ≤ 112 → 0 ≤ l.foldl (fun c x => (c - tp.getD (2 * x.1) 0) % 113) c ∧ l.foldl (fun c x => (c - tp.getD (2 * x.1) 0) % 113) c ≤ 112 from h _ _ h0
  intro l
  induction l with
  | nil => exact fun c h => h
  | cons x t ih => exact fun c h => ih _ (by dsimp only; omega)
theorem resP_all (tp : List Int) (n q : Nat) (ch : Int) {k : Nat} (hk : k ≤ n) : resP tp n ch (othF n q k) = restK tp q ch k := by
  induction k with
  | zero => rfl
  | succ k ih =>
    by_cases e : k = q
    · subst e
      rw [othF_same, ih (by omega)]
      conv => rhs; unfold restK
      rw [if_pos rfl]
    · rw [othF_succ n q k (by omega) e, resP_snoc, ih (by omega)]
      conv => rhs; unfold restK
      rw [if_neg e]
theorem lstP_get (ks tp : List Int) (n q : Nat) {k : Nat} (hk : k ≤ n) (j : Nat) : (lstP ks tp n (othF n q k))[j]? = if j < k ∧ j ≠ q then some (otherP ks tp j) else if j < n then some (0, 0, 0) else none := by
  induction k with
  | zero =>
    show (List.replicate n ((0, 0, 0) : Pf))[j]? = _
    rw [List.getElem?_replicate, if_neg (by omega : ¬ (j < 0 ∧ j ≠ q))]
  | succ k ih =>
    by_cases e : k = q
    · subst e
      rw [othF_same, ih (by omega)]
      by_cases h : j < k ∧ j ≠ k
      · rw [if_pos h, if_pos ⟨by omega, h.2⟩]
      · rw [if_neg h, if_neg (show ¬ (j < k + 1 ∧ j ≠ k) by omega)]
    · rw [othF_succ n q k (by omega) e, lstP_snoc, List.getElem?_set, ih (by omega)]
      by_cases h : k = j
      · subst h
        rw [if_pos rfl, if_pos (by rw [lstP_len]; omega), if_pos (by omega)]
      · rw [if_neg h]
        by_cases h2 : j < k ∧ j ≠ q
        · rw [if_pos h2, if_pos (by omega)]
        · rw [if_neg h2, if_neg (show ¬ (j < k + 1 ∧ j ≠ q) by omega)]
theorem lstP_all (ks tp : List Int) (n q : Nat) (v : Pf) : (lstP ks tp n (othF n q n)).set q v = ((List.range n).map (otherP ks tp)).set q v := by
  apply List.ext_getElem?
  intro j
  rw [List.getElem?_set, List.getElem?_set, lstP_len, List.length_map, List.length_range, lstP_get ks tp n q (Nat.le_refl _)]
  by_cases h : q = j
  · rw [if_pos h, if_pos h]
  · rw [if_neg h, if_neg h]
    by_cases h2 : j < n
    · rw [if_pos ⟨h2, fun e => h e.symm⟩]; simp [h2]
    · rw [if_neg (show ¬ (j < n ∧ j ≠ q) by omega), if_neg h2, List.getElem?_eq_none (by rw [List.length_map, List.length_range]; omega)]
theorem enc_set3 {W : World} {B k : Nat} {L : List Pf} (h : Bx W B (cProof L).toArray 54) (x y z : Int) :
    Bx (((W.setCell ⟨B, k * 3, none⟩ (.int .i64 x)).setCell ⟨B, k * 3 + 1, none⟩ (.int .i64 y)).setCell ⟨B, k * 3 + 2, none⟩ (.int .i64 z)) B (cProof (L.set k (x, y, z))).toArray 54 := by
  have h3 := ((h.set (k * 3) (.int .i64 x)).set (k * 3 + 1) (.int .i64 y)).set (k * 3 + 2) (.int .i64 z)
  rw [List.setIfInBounds_toArray, List.setIfInBounds_toArray, List.setIfInBounds_toArray, cProof_set] at h3
  exact h3
theorem bx_from {α : Type} (B b : Nat) (cs : α → Array Value) (e : TypeId) : OwnFrom B (fun s W => Bx W b (cs s) e) := by
  intro s X Y row h hg hr
  refine (hg.block b h.lt (fun e' => ?_)).trans h
  obtain ⟨_, _, ho, hc⟩ := hr b e'.symm
  rw [show X.heap[b]? = _ from h] at ho; cases ho; cases hc
theorem keeps_below {W W' : World} (h : Below W.heap.size W W') : KeepsOthers W W' := ⟨h.size, fun k _ hk _ => (h.block k (Array.getElem?_eq_some_iff.1 hk).1).trans hk⟩

theorem bx_row3 {W : World} {g k : Nat} {L : List Pf} (h : Bx W g (cProof L).toArray 54) (hk : k < L.length) :
    (∃ u, W.cell? ⟨g, k * 3, none⟩ = some u) ∧ (∃ u, W.cell? ⟨g, k * 3 + 1, none⟩ = some u) ∧ (∃ u, W.cell? ⟨g, k * 3 + 2, none⟩ = some u) ∧ ∀ j, W.frozen? ⟨g, j, none⟩ = false := by
  have hl : (cProof L).toArray.size = L.length * 3 := by rw [List.size_toArray, cProof_length]
  exact ⟨⟨_, (h.cell _).trans (Array.getElem?_eq_getElem (by omega))⟩, ⟨_, (h.cell _).trans (Array.getElem?_eq_getElem (by omega))⟩, ⟨_, (h.cell _).trans (Array.getElem?_eq_getElem (by omega))⟩, h.free⟩
/-- only the way on: a region that ends well, whatever stands behind -/
def OnlyN (Q : Exit → Act → World → Prop) : Exit → Act → World → Prop
  | .normal, a, w => Q .normal a w
  | _, _, _ => False
theorem wp_onlyN {P : Program} {c : Code} {Q : Exit → Act → World → Prop} {a : Act} {w : World} (h : c.wp P (OnlyN Q) a w) : c.wp P Q a w :=
  Code.wp_mono (fun e a w h => by cases e <;> first | exact h | exact h.elim) h
/-- the block for the rounds' deferred calls -/
def DfA (W : World) (D : Nat) : Prop := W.heap[D]? = some (.deferred (some []))
theorem DfA.below {W W' : World} {D B : Nat} (h : DfA W D) (hb : Below B W W') (hl : D < B) : DfA W' D := (hb.block D hl).trans h
theorem DfA.kept {W W' : World} {D lo hi : Nat} (h : DfA W D) (hk : Kept lo hi W W') (hl : D + 1 ≤ W.heap.size) (hd : hi ≤ D ∨ D + 1 ≤ lo) : DfA W' D := (hk.block D (by omega) (by omega)).trans h
theorem DfA.lt {W : World} {D : Nat} (h : DfA W D) : D < W.heap.size := (Array.getElem?_eq_some_iff.1 h).1
/-- a round's stores and its call -/
theorem oth_round {W w2 : World} {b k : Nat} {y z u v : Value} (hs : b + 7 ≤ W.heap.size)
    (hb2 : Below ((((W.setCell ⟨b + 1 + 1, k * 3, none⟩ y).setCell ⟨b + 1 + 1, k * 3 + 1, none⟩ z).setCell ⟨b + 1 + 1, k * 3 + 2, none⟩ u).drew).heap.size ((((W.setCell ⟨b + 1 + 1, k * 3, none⟩ y).setCell ⟨b + 1 + 1, k * 3 + 1, none⟩ z).setCell ⟨b + 1 + 1, k * 3 + 2, none⟩ u).drew) w2) :
    KeepsOthers W (w2.setCell ⟨b + 1, 0, none⟩ v) ∧ Below b W (w2.setCell ⟨b + 1, 0, none⟩ v) ∧ ∀ B cs e, B ≠ b + 1 → B ≠ b + 1 + 1 → Bx W B cs e → Bx (w2.setCell ⟨b + 1, 0, none⟩ v) B cs e := by
  have hz : ((((W.setCell ⟨b + 1 + 1, k * 3, none⟩ y).setCell ⟨b + 1 + 1, k * 3 + 1, none⟩ z).setCell ⟨b + 1 + 1, k * 3 + 2, none⟩ u).drew).heap.size = W.heap.size := by
    show (((W.setCell ⟨b + 1 + 1, k * 3, none⟩ y).setCell ⟨b + 1 + 1, k * 3 + 1, none⟩ z).setCell ⟨b + 1 + 1, k * 3 + 2, none⟩ u).heap.size = _
    rw [World.size_setCell, World.size_setCell, World.size_setCell]
  refine ⟨((((KeepsOthers.setCell W _ _).trans (KeepsOthers.setCell _ _ _)).trans (KeepsOthers.setCell _ _ _)).trans (KeepsOthers.drew _)).trans ((keeps_below hb2).trans (KeepsOthers.setCell _ _ _)), ?_, ?_⟩
  · refine Below.setCell (Below.trans (Below.drew (((((Below.refl b W).setCell (p := ⟨b + 1 + 1, k * 3, none⟩) (by simp only; omega) _).setCell (p := ⟨b + 1 + 1, k * 3 + 1, none⟩) (by simp only; omega) _).setCell (p := ⟨b + 1 + 1, k * 3 + 2, none⟩) (by simp only; omega) _))) (hb2.mono (by rw [hz]; omega))) (by simp only; omega) _
  · intro B cs e h1 h2 h
    have hlt := h.lt
    have h3 := ((h.other ⟨b + 1 + 1, k * 3, none⟩ y (by simp only; omega)).other ⟨b + 1 + 1, k * 3 + 1, none⟩ z (by simp only; omega)).other ⟨b + 1 + 1, k * 3 + 2, none⟩ u (by simp only; omega)
    refine Bx.other (Bx.below ?_ hb2 (by rw [hz]; exact hlt)) _ _ (by simp only; omega)
    exact h3
theorem stops_oth (Bk Bt Bo Bf n₀ n q m nt ct : Nat) (At : Option Addr) (ks tp : List Int) (hm : 1 ≤ m) (w0 w : World)
    (hF : ∀ W k c r, Below n₀ w0 W → k < n → 0 ≤ c → c ≤ 112 → 0 ≤ r → r ≤ 112 → Calls Try.prog 46 #[.int .i64 (k : Nat), .agg #[.int .i64 c, .int .i64 r], .pointer (some ⟨Bk, 0, none⟩)] W fun e W' => e = .returned (.agg #[.int .i64 (backI 4 (ks.getD k 0) r c), .int .i64 c, .int .i64 r]) ∧ Below W.heap.size W W')
    (hn : n ≤ 6) (hnt : nt = 2 * n) (hT : Rd w0 n₀ 1 At nt (cI tp)) (hN : numsB tp = true) (hB : OBx Bt Bo Bf (.slice At nt ct) q (.func (.func 46) #[] #[.pointer (some ⟨Bk, 0, none⟩)]) w) (hn₀ : n₀ ≤ w.heap.size) (hbel : Below n₀ w0 w) :
    SeqStopsK Fence.wide m Try.prog 111 #[.pointer (some ⟨Bt, 0, none⟩), .pointer (some ⟨Bo, 0, none⟩), .pointer (some ⟨Bf, 0, none⟩)] (fun x : Fin n => encO (x.1, otherP ks tp x.1)) (KpP n₀ (OBx Bt Bo Bf (.slice At nt ct) q (.func (.func 46) #[] #[.pointer (some ⟨Bk, 0, none⟩)]))) (fun ys => ys = othF n q n) (fun _ => True) n w := fun l J Jx W hW hJ _ hY h0 =>
  i_it_oth Bk Bt Bo Bf l n₀ n q m nt ct At ks tp hm w0 hF hn hnt hT hN J Jx W hJ hY (hB.grown hW) (Nat.le_trans hn₀ hW.size) (hbel.trans (hW.mono hn₀)) h0

set_option maxHeartbeats 1000000 in
theorem i_others (q : Nat) (v : Value) (Bk : Nat) (w : World) (hv : ∃ A n c, v = .slice A n c) :
    Calls Try.prog 89 #[.int .i64 q, v, .func (.func 46) #[] #[.pointer (some ⟨Bk, 0, none⟩)]] w fun e w' => e = .returned (.func (.func 111) #[] #[.pointer (some ⟨w.heap.size + 1, 0, none⟩), .pointer (some ⟨w.heap.size, 0, none⟩), .pointer (some ⟨w.heap.size + 1 + 1, 0, none⟩)]) ∧ ((w.alloc (.cells #[.int .i64 q] 3)).alloc (.cells #[v] 22)).alloc (.cells #[.func (.func 46) #[] #[.pointer (some ⟨Bk, 0, none⟩)]] 109) = w' := by
  obtain ⟨A, n, c, rfl⟩ := hv
  go_enter Try.func89, Try.ntmps89
  go_wp2
  go_ret
  exact ⟨rfl, rfl⟩

set_option maxHeartbeats 4000000 in
theorem i_proofsBy (Bk n q nt ct : Nat) (At : Option Addr) (ks tp : List Int) (s ch : Int) (w : World)
    (hF : ∀ W k c r, Below w.heap.size w W → k < n → 0 ≤ c → c ≤ 112 → 0 ≤ r → r ≤ 112 → Calls Try.prog 46 #[.int .i64 (k : Nat), .agg #[.int .i64 c, .int .i64 r], .pointer (some ⟨Bk, 0, none⟩)] W fun e W' => e = .returned (.agg #[.int .i64 (backI 4 (ks.getD k 0) r c), .int .i64 c, .int .i64 r]) ∧ Below W.heap.size W W')
    (hn : n ≤ 6) (hnt : nt = 2 * n) (hT : Rd w w.heap.size 1 At nt (cI tp)) (hN : numsB tp = true) (hq : q < n) (s0 : 0 ≤ s) (s1 : s ≤ 112) (c0 : 0 ≤ ch) (c1 : ch ≤ 112) :
    Calls Try.prog 45 #[.agg #[.int .i64 q, .int .i64 s], .int .i64 ch, .slice At nt ct, .func (.func 46) #[] #[.pointer (some ⟨Bk, 0, none⟩)]] w fun e w' => ∃ g, e = .returned (.slice (some ⟨g, 0, none⟩) n n) ∧ w.heap.size ≤ g ∧ Bx w' g (cProof (((List.range n).map (otherP ks tp)).set q (backI 4 (ks.getD q 0) ((tp.getD (2 * q) 0 + restK tp q ch n * s) % 113) (restK tp q ch n), restK tp q ch n, (tp.getD (2 * q) 0 + restK tp q ch n * s) % 113))).toArray 54 ∧ Below w.heap.size w w' := by
  refine (callsIn_wide (n := 9)).1 ?_
  have hquo : (nt : Int).tdiv 2 = (n : Int) := by rw [Int.tdiv_eq_ediv_of_nonneg (by omega)]; omega
  have HFF := Lib.hid hF
  have HTP := Lib.hid hT
  have HNU := Lib.hid hN
  have HNT := Lib.hid hnt
  have hmk := fun W => run_makeN (P := Try.prog) Try.underlying23 info_Proof n (by omega) (by omega) W
  have hcs0 : madeCells (Value.agg #[.int .i64 0, .int .i64 0, .int .i64 0]).cells (n * 3) = (cProof (lstP ks tp n [])).toArray := by
    apply Array.toList_inj.1; rw [show (Value.agg #[.int .i64 0, .int .i64 0, .int .i64 0]).cells = #[.int .i64 0, .int .i64 0, .int .i64 0] from rfl, made_Proof]; rfl
  rw [hcs0] at hmk
  obtain ⟨cs, hcs⟩ : ∃ cs, Hid ((cProof (lstP ks tp n [])).toArray = cs) := ⟨_, Lib.hid rfl⟩
  rw [hcs.out] at hmk
  clear hF hT hN hnt hcs0
  refine callsIn_of_wp_marks Try.func45 rfl trivial ?_ rfl
  simp only [Try.ntmps45, List.size_toArray, List.length_cons, List.length_nil, Nat.reduceAdd, Nat.reduceSub, Array.replicate_succ, Array.replicate_zero, List.push_toArray, List.append_toArray, List.nil_append, List.cons_append]
  gi_wp2_with (refine ⟨trivial, ?_⟩
               gi_at_call 89
               refine (callsIn_wide.2 (i_others _ _ _ _ ⟨_, _, _, rfl⟩)).mono ?_
               rintro e w' ⟨rfl, rfl⟩)
  obtain ⟨W0, hW0⟩ : ∃ W0, Hid (((((((w.alloc (.cells #[.int .i64 q, .int .i64 s] 60)).alloc (.cells #[.int .i64 ch] 58)).alloc (.cells cs 54)).alloc (.cells #[.slice (some ⟨w.heap.size + 1 + 1, 0, none⟩) n n] 23)).alloc (.cells #[.int .i64 q] 3)).alloc (.cells #[.slice At nt ct] 22)).alloc (.cells #[.func (.func 46) #[] #[.pointer (some ⟨Bk, 0, none⟩)]] 109) = W0) := ⟨_, Lib.hid rfl⟩
  have bK : Bx W0 w.heap.size #[.int .i64 q, .int .i64 s] 60 := by rw [← hW0.out]; exact ((((((Bx.new w _ _).alloc _).alloc _).alloc _).alloc _).alloc _).alloc _
  have bC : Bx W0 (w.heap.size + 1) #[.int .i64 ch] 58 := by
    rw [← hW0.out]; have := (((((Bx.new (w.alloc (.cells #[.int .i64 q, .int .i64 s] 60)) #[.int .i64 ch] 58).alloc (.cells cs 54)).alloc (.cells #[.slice (some ⟨w.heap.size + 1 + 1, 0, none⟩) n n] 23)).alloc (.cells #[.int .i64 q] 3)).alloc (.cells #[.slice At nt ct] 22)).alloc (.cells #[.func (.func 46) #[] #[.pointer (some ⟨Bk, 0, none⟩)]] 109)
    simp only [World.size_alloc] at this; exact this
  have bR : Bx W0 (w.heap.size + 1 + 1) cs 54 := by
    rw [← hW0.out]; have := ((((Bx.new ((w.alloc (.cells #[.int .i64 q, .int .i64 s] 60)).alloc (.cells #[.int .i64 ch] 58)) cs 54).alloc (.cells #[.slice (some ⟨w.heap.size + 1 + 1, 0, none⟩) n n] 23)).alloc (.cells #[.int .i64 q] 3)).alloc (.cells #[.slice At nt ct] 22)).alloc (.cells #[.func (.func 46) #[] #[.pointer (some ⟨Bk, 0, none⟩)]] 109)
    simp only [World.size_alloc] at this; exact this
  have bL : Bx W0 (w.heap.size + 1 + 1 + 1) #[.slice (some ⟨w.heap.size + 1 + 1, 0, none⟩) n n] 23 := by
    rw [← hW0.out]; have := (((Bx.new (((w.alloc (.cells #[.int .i64 q, .int .i64 s] 60)).alloc (.cells #[.int .i64 ch] 58)).alloc (.cells cs 54)) #[.slice (some ⟨w.heap.size + 1 + 1, 0, none⟩) n n] 23).alloc (.cells #[.int .i64 q] 3)).alloc (.cells #[.slice At nt ct] 22)).alloc (.cells #[.func (.func 46) #[] #[.pointer (some ⟨Bk, 0, none⟩)]] 109)
    simp only [World.size_alloc] at this; exact this
  have hOB : OBx (w.heap.size + 1 + 1 + 1 + 1 + 1) (w.heap.size + 1 + 1 + 1 + 1) (w.heap.size + 1 + 1 + 1 + 1 + 1 + 1) (.slice At nt ct) q (.func (.func 46) #[] #[.pointer (some ⟨Bk, 0, none⟩)]) W0 := by
    rw [← hW0.out]
    have h1 := (Bx.new (((((w.alloc (.cells #[.int .i64 q, .int .i64 s] 60)).alloc (.cells #[.int .i64 ch] 58)).alloc (.cells cs 54)).alloc (.cells #[.slice (some ⟨w.heap.size + 1 + 1, 0, none⟩) n n] 23)).alloc (.cells #[.int .i64 q] 3)) #[.slice At nt ct] 22).alloc (.cells #[.func (.func 46) #[] #[.pointer (some ⟨Bk, 0, none⟩)]] 109)
    have h2 := ((Bx.new ((((w.alloc (.cells #[.int .i64 q, .int .i64 s] 60)).alloc (.cells #[.int .i64 ch] 58)).alloc (.cells cs 54)).alloc (.cells #[.slice (some ⟨w.heap.size + 1 + 1, 0, none⟩) n n] 23)) #[.int .i64 q] 3).alloc (.cells #[.slice At nt ct] 22)).alloc (.cells #[.func (.func 46) #[] #[.pointer (some ⟨Bk, 0, none⟩)]] 109)
    have h3 := Bx.new ((((((w.alloc (.cells #[.int .i64 q, .int .i64 s] 60)).alloc (.cells #[.int .i64 ch] 58)).alloc (.cells cs 54)).alloc (.cells #[.slice (some ⟨w.heap.size + 1 + 1, 0, none⟩) n n] 23)).alloc (.cells #[.int .i64 q] 3)).alloc (.cells #[.slice At nt ct] 22)) #[.func (.func 46) #[] #[.pointer (some ⟨Bk, 0, none⟩)]] 109
    simp only [World.size_alloc] at h1 h2 h3
    exact ⟨h1, h2, h3⟩
  have hsz : W0.heap.size = w.heap.size + 7 := by rw [← hW0.out]; simp only [World.size_alloc]
  have hB0 : Below w.heap.size w W0 := by
    rw [← hW0.out]
    exact (((((((Below.refl w.heap.size w).alloc (Nat.le_refl _) _).alloc (by simp) _).alloc (by simp; omega) _).alloc (by simp; omega) _).alloc (by simp; omega) _).alloc (by simp; omega) _).alloc (by simp; omega) _
  rw [hW0.out]
  rw [← hcs.out] at bR
  clear hmk hcs hW0
  refine wpIn_rangeFunc_ownH rfl (by decide) (gf := 111) (lb := #[.pointer (some ⟨w.heap.size + 1 + 1 + 1 + 1 + 1, 0, none⟩), .pointer (some ⟨w.heap.size + 1 + 1 + 1 + 1, 0, none⟩), .pointer (some ⟨w.heap.size + 1 + 1 + 1 + 1 + 1 + 1, 0, none⟩)]) rfl trivial (enters_of Try.func111 (by kernel_rfl) rfl)
    (stops_oth Bk (w.heap.size + 1 + 1 + 1 + 1 + 1) (w.heap.size + 1 + 1 + 1 + 1) (w.heap.size + 1 + 1 + 1 + 1 + 1 + 1) w.heap.size n q (9 - 1) nt ct At ks tp (by decide) w W0 HFF.out hn HNT.out HTP.out HNU.out hOB (by omega) hB0) KpP_t (KpP_b (by omega)) (Below.refl _ _) (fun _ => rfl)
    (fun pre W => Bx W w.heap.size #[.int .i64 q, .int .i64 s] 60 ∧ Bx W (w.heap.size + 1) #[.int .i64 (resP tp n ch pre)] 58 ∧ Bx W (w.heap.size + 1 + 1) (cProof (lstP ks tp n pre)).toArray 54 ∧ Bx W (w.heap.size + 1 + 1 + 1) #[.slice (some ⟨w.heap.size + 1 + 1, 0, none⟩) n n] 23 ∧ w.heap.size + 7 ≤ W.heap.size ∧ Below w.heap.size w W)
    (fun _ _ _ => False)
    (OwnFrom.and (bx_from _ _ _ _) (OwnFrom.and (bx_from _ _ _ _) (OwnFrom.and (bx_from _ _ _ _) (OwnFrom.and (bx_from _ _ _ _) (OwnFrom.and (fun _ _ _ _ h hg _ => Nat.le_trans h hg.size) (ownFrom_below (Nat.le_refl _) (by omega)))))))
    (fun _ _ _ _ _ hs _ _ => hs)
    ⟨bK, bC, bR, bL, by omega, hB0⟩
    (fun x a' W => ∃ (Bq : Nat) (y z u : Int), w.heap.size + 7 ≤ Bq ∧ Hid (otherP ks tp x.1 = (y, z, u)) ∧ Bx W Bq #[.int .i64 y, .int .i64 z, .int .i64 u] 54 ∧ a' = { tmps := #[.agg #[.int .i64 q, .int .i64 s], .int .i64 ch, .slice At nt ct, .func (.func 46) #[] #[.pointer (some ⟨Bk, 0, none⟩)], .pointer (some ⟨w.heap.size, 0, none⟩), .pointer (some ⟨w.heap.size + 1, 0, none⟩), undef, undef, .slice none 0 0, .pointer (some ⟨w.heap.size + 1 + 1 + 1, 0, none⟩), .int .i64 (x.1 : Nat), .pointer (some ⟨Bq, 0, none⟩), undef, .slice At nt ct, .int .i64 nt, .int .i64 n, .slice (some ⟨w.heap.size + 1 + 1, 0, none⟩) n n, .pointer (some ⟨w.heap.size, 0, none⟩), .int .i64 q, .slice At nt ct, .func (.func 46) #[] #[.pointer (some ⟨Bk, 0, none⟩)], .func (.func 111) #[] #[.pointer (some ⟨w.heap.size + 1 + 1 + 1 + 1 + 1, 0, none⟩), .pointer (some ⟨w.heap.size + 1 + 1 + 1 + 1, 0, none⟩), .pointer (some ⟨w.heap.size + 1 + 1 + 1 + 1 + 1 + 1, 0, none⟩)], .int .i64 (x.1 : Nat), .agg #[.int .i64 y, .int .i64 z, .int .i64 u], undef, undef, undef, undef, undef, undef, undef, undef, undef, undef, undef, undef, undef, undef, undef, undef, undef, undef, undef, undef, undef, undef, undef, undef, undef, undef, undef, undef, undef, undef], defers := [] })
    (fun x a' _ X Y row hs hg hr => by
      obtain ⟨Bq, y, z, u, h1, ho, h2, h3⟩ := hs
      exact ⟨Bq, y, z, u, h1, ho, bx_from W0.heap.size Bq (fun _ : Unit => #[.int .i64 y, .int .i64 z, .int .i64 u]) 54 () X Y row h2 hg hr, h3⟩)
    ?assign ?body ?done ?stop
  case assign =>
    rintro l pre x W K ⟨h1, h2, h3, h4, h5, hB⟩ hK
    obtain ⟨⟨y, z, u⟩, ho⟩ : ∃ o, Hid (otherP ks tp x.1 = o) := ⟨_, Lib.hid rfl⟩
    simp only [encO, ho.out]
    gi_wp2
    exact hK _ _ ((KeepsOthers.alloc _ _).from _) ⟨(Below.refl _ W).alloc hB.size _, fun h => ⟨h.1.alloc _, h.2.1.alloc _, h.2.2.alloc _⟩⟩ ⟨h1.alloc _, h2.alloc _, h3.alloc _, h4.alloc _, by simp only [World.size_alloc]; omega, hB.alloc hB.size _⟩ ⟨W.heap.size, y, z, u, h5, ho, Bx.new _ _ _, rfl⟩
  case body =>
    rintro l pre x a' W hl ⟨r, hr⟩ ⟨bK, bC, bR, bL, hs7, hB⟩ ⟨Bq, y, z, u, hBq, ho, bX, rfl⟩ _
    obtain ⟨j, hj⟩ := x
    have HO : Hid (otherP ks tp j = (y, z, u)) := ho
    have hz : z = tp.getD (2 * j) 0 := by have := HO.out; unfold otherP at this; exact (congrArg (fun p => p.2.1) this).symm
    have hzb := numsB_at5 HNU.out (k := 2 * j) (by have := HTP.out.len; have := HNT.out; omega)
    rw [← hz] at hzb
    obtain ⟨z0, z1⟩ := hzb
    have hcb := resP_bd tp n ch ⟨c0, c1⟩ pre
    obtain ⟨c, hc⟩ : ∃ c, Hid (resP tp n ch pre = c) := ⟨_, Lib.hid rfl⟩
    rw [hc.out] at hcb bC
    obtain ⟨cb0, cb1⟩ := hcb
    have HIN : Hid (resP tp n ch (pre ++ [⟨j, hj⟩]) = (c - z) % 113 ∧ lstP ks tp n (pre ++ [⟨j, hj⟩]) = (lstP ks tp n pre).set j (y, z, u)) := Lib.hid ⟨by rw [resP_snoc, hc.out, hz], by rw [lstP_snoc, ← HO.out]⟩
    have BK := Lib.hid bK
    have BR := Lib.hid bR
    have BL := Lib.hid bL
    have BB := Lib.hid hB
    have cL : W.cell? ⟨w.heap.size + 1 + 1 + 1, 0, none⟩ = some (.slice (some ⟨w.heap.size + 1 + 1, 0, none⟩) n n) := bL.cell 0
    have cX0 : W.cell? ⟨Bq, 0, none⟩ = some (.int .i64 y) := bX.cell 0
    have cX1 : W.cell? ⟨Bq, 1, none⟩ = some (.int .i64 z) := bX.cell 1
    have cX2 : W.cell? ⟨Bq, 2, none⟩ = some (.int .i64 u) := bX.cell 2
    obtain ⟨⟨xv0, xc0⟩, ⟨xv1, xc1⟩, ⟨xv2, xc2⟩, xff⟩ := bx_row3 (k := j) bR (by rw [lstP_len]; exact hj)
    have xf0 := xff (j * 3)
    have xf1 := xff (j * 3 + 1)
    have xf2 := xff (j * 3 + 2)
    have i0 : (0 : Int) ≤ (j : Int) := by omega
    have i1 : (j : Int) < (n : Int) := by omega
    clear hz HO ho hc bK bR bL hB HFF HTP HNU HNT hquo
    gi_wp2
    obtain ⟨W5, hW5⟩ : ∃ W5, Hid (((W.setCell ⟨w.heap.size + 1 + 1, j * 3, none⟩ (.int .i64 y)).setCell ⟨w.heap.size + 1 + 1, j * 3 + 1, none⟩ (.int .i64 z)).setCell ⟨w.heap.size + 1 + 1, j * 3 + 2, none⟩ (.int .i64 u) = W5) := ⟨_, Lib.hid rfl⟩
    rw [hW5.out]
    have bC5 : Bx W5 (w.heap.size + 1) #[.int .i64 c] 58 := by rw [← hW5.out]; exact ((bC.other _ _ (by simp only; omega)).other _ _ (by simp only; omega)).other _ _ (by simp only; omega)
    have bX5 : Bx W5 Bq #[.int .i64 y, .int .i64 z, .int .i64 u] 54 := by rw [← hW5.out]; exact ((bX.other _ _ (by simp only; omega)).other _ _ (by simp only; omega)).other _ _ (by simp only; omega)
    have BR5 : Hid (Bx W5 (w.heap.size + 1 + 1) (cProof ((lstP ks tp n pre).set j (y, z, u))).toArray 54) := Lib.hid (by rw [← hW5.out]; exact enc_set3 BR.out y z u)
    have cc5 : W5.cell? ⟨w.heap.size + 1, 0, none⟩ = some (.int .i64 c) := bC5.cell 0
    have cf5 : W5.frozen? ⟨w.heap.size + 1, 0, none⟩ = false := bC5.free 0
    have cY0 : W5.cell? ⟨Bq, 0, none⟩ = some (.int .i64 y) := bX5.cell 0
    have cY1 : W5.cell? ⟨Bq, 1, none⟩ = some (.int .i64 z) := bX5.cell 1
    have cY2 : W5.cell? ⟨Bq, 2, none⟩ = some (.int .i64 u) := bX5.cell 2
    clear cL cX0 cX1 cX2 xc0 xc1 xc2 xff xf0 xf1 xf2 bX
    gi_region_with (first
      | rw [inv_pf]
      | rw [field_an]
      | (refine ⟨trivial, ?_⟩
         gi_at_call 135
         refine (CallsIn.inRound l (callsIn_wide.2 (i_Proof_answer y z u _))).mono ?_
         rintro e w2 ⟨rfl, hb2⟩
         have bC2 : Bx w2 (w.heap.size + 1) #[.int .i64 c] 58 := Bx.below (show Bx W5.drew _ _ _ from bC5) hb2 bC5.lt
         have cc2 : w2.cell? ⟨w.heap.size + 1, 0, none⟩ = some (.int .i64 c) := bC2.cell 0
         have cf2 : w2.frozen? ⟨w.heap.size + 1, 0, none⟩ = false := bC2.free 0)
      | (refine ⟨trivial, ?_⟩
         gi_at_call 90
         refine (CallsIn.inRound l (callsIn_wide.2 (i_minus c z _ cb0 cb1 z0 z1))).mono ?_
         rintro e w' ⟨rfl, rfl⟩))
    all_goals
      gi_wp2
      have hr := oth_round (W := W) (b := w.heap.size) (k := j) (y := .int .i64 y) (z := .int .i64 z) (u := .int .i64 u) (w2 := w2) (v := .int .i64 ((c - z) % 113)) hs7 (by rw [hW5.out]; exact hb2)
      have bR2 : Bx (w2.setCell ⟨w.heap.size + 1, 0, none⟩ (.int .i64 ((c - z) % 113))) (w.heap.size + 1 + 1) (cProof ((lstP ks tp n pre).set j (y, z, u))).toArray 54 := Bx.other (Bx.below (show Bx W5.drew _ _ _ from BR5.out) hb2 BR5.out.lt) _ _ (by simp only; omega)
      exact ⟨hr.1.from _, ⟨hr.2.1, fun h => ⟨hr.2.2 _ _ _ (by omega) (by omega) h.1, hr.2.2 _ _ _ (by omega) (by omega) h.2.1, hr.2.2 _ _ _ (by omega) (by omega) h.2.2⟩⟩, hr.2.2 _ _ _ (by omega) (by omega) BK.out, by rw [HIN.out.1]; exact bC2.set 0 _, by rw [HIN.out.2]; exact bR2, hr.2.2 _ _ _ (by omega) (by omega) BL.out, Nat.le_trans hs7 hr.1.size, BB.out.trans hr.2.1⟩
  case done =>
    rintro D ys W hD rfl ⟨bK, bC, bR, bL, hs7, hB⟩ hK
    have HO_df : Hid (DfA W D) := Lib.hid hK
    have hDl : D < W.heap.size := HO_df.out.lt
    rw [resP_all tp n q ch (Nat.le_refl n)] at bC
    have hcb := restK_bd (tp := tp) (i := q) ⟨c0, c1⟩ n
    obtain ⟨c, hc⟩ : ∃ c, Hid (restK tp q ch n = c) := ⟨_, Lib.hid rfl⟩
    rw [hc.out] at hcb bC
    obtain ⟨cb0, cb1⟩ := hcb
    obtain ⟨J2, HJ⟩ : ∃ J2, Hid (J2 = 2 * q) := ⟨_, Lib.hid rfl⟩
    have hJ0 : J2 < nt := by have := HJ.out; have := HNT.out; omega
    obtain ⟨ta, t0, rfl, hbb, ht0, HT0⟩ := HTP.out.intAt hJ0
    have hta := (hB.cell (p := ta.add J2) (by rw [add_block]; exact hbb)).trans ht0
    have tb0 := numsB_at5 HNU.out (k := J2) (by have := HTP.out.len; omega)
    rw [← HT0.out] at tb0
    obtain ⟨t00, t01⟩ := tb0
    have HT1 : Hid (tp.getD (2 * q) 0 = t0) := Lib.hid (by rw [← HJ.out]; exact HT0.out.symm)
    obtain ⟨rr, hrr⟩ : ∃ r, Hid ((t0 + c * s) % 113 = r) := ⟨_, Lib.hid rfl⟩
    have rr0 : 0 ≤ rr := by rw [← hrr.out]; omega
    have rr1 : rr ≤ 112 := by rw [← hrr.out]; omega
    have HAN := fun W => Lib.hid (i_answering s t0 c W s0 s1 t00 t01 cb0 cb1)
    simp only [hrr.out] at HAN
    have HF8 : Hid (∀ W, Below w.heap.size w W → Calls Try.prog 46 #[.int .i64 (q : Nat), .agg #[.int .i64 c, .int .i64 rr], .pointer (some ⟨Bk, 0, none⟩)] W fun e W' => e = .returned (.agg #[.int .i64 (backI 4 (ks.getD q 0) rr c), .int .i64 c, .int .i64 rr]) ∧ Below W.heap.size W W') := Lib.hid (fun W hb => HFF.out W q c rr hb hq cb0 cb1 rr0 rr1)
    obtain ⟨bk, hbk⟩ : ∃ v, Hid (backI 4 (ks.getD q 0) rr c = v) := ⟨_, Lib.hid rfl⟩
    rw [hbk.out] at HF8
    have HEND : Hid ((lstP ks tp n (othF n q n)).set q (bk, c, rr) = ((List.range n).map (otherP ks tp)).set q (backI 4 (ks.getD q 0) ((tp.getD (2 * q) 0 + restK tp q ch n * s) % 113) (restK tp q ch n), restK tp q ch n, (tp.getD (2 * q) 0 + restK tp q ch n * s) % 113)) := Lib.hid (by rw [lstP_all, HT1.out, hc.out, hrr.out, hbk.out])
    have HX_kn := Lib.hid bK
    have HX_ch := Lib.hid bC
    have HX_li := Lib.hid bL
    have HW := Lib.hid bR
    have HB := Lib.hid hB
    have kk0 : W.cell? ⟨w.heap.size, 0, none⟩ = some (.int .i64 q) := bK.cell 0
    have iw : IntKind.i64.wrap (2 * (q : Int)) = (J2 : Int) := by
      have := HJ.out
      have e : (J2 : Int) = 2 * (q : Int) := by omega
      rw [e]; exact IntWalk.i64_in _ (by omega)
    have i2 : (0 : Int) ≤ (J2 : Int) := by omega
    have i3 : (J2 : Int) < (nt : Int) := by omega
    have iq0 : (0 : Int) ≤ (q : Int) := by omega
    have iq1 : (q : Int) < (n : Int) := by omega
    clear hK hc ht0 HT0 HT1 hrr hbk bK bC bL bR hB HFF HTP HNU HNT hquo hJ0 hbb
    gi_upto_region 8 with (fail)
    clear kk0 hta
    refine wpIn_wide.2 (wp_onlyN ?_)
    refine wp_region_held_drew (S := fun w' => w'.cell? ⟨w.heap.size, 0, none⟩ = some (.int .i64 q) ∧ w'.cell? ⟨w.heap.size, 1, none⟩ = some (.int .i64 s) ∧ w'.cell? ⟨(w.heap.size + 1), 0, none⟩ = some (.int .i64 c) ∧ w'.cell? ⟨(w.heap.size + 1 + 1 + 1), 0, none⟩ = some (.slice (some ⟨w.heap.size + 1 + 1, 0, none⟩) n n)) (by kernel_rfl) ⟨HX_kn.out.cell 0, HX_kn.out.cell 1, HX_ch.out.cell 0, HX_li.out.cell 0⟩ (fun hHeld => ?_)
    obtain ⟨u0, hu0⟩ : ∃ u0, Hid (W.drew = u0) := ⟨_, Lib.hid rfl⟩
    rw [hu0.out] at hHeld ⊢
    have zs0 : W.heap.size = u0.heap.size := by rw [← hu0.out]; rfl
    replace zs0 := Nat.le_of_eq zs0
    have HBl0 : Hid (Below w.heap.size w u0) := Lib.hid (by rw [← hu0.out]; exact HB.out.drew)
    have HX_kn0 : Hid (Bx u0 w.heap.size #[.int .i64 q, .int .i64 s] 60) := Lib.hid (by rw [← hu0.out]; exact HX_kn.out)
    have HX_ch0 : Hid (Bx u0 (w.heap.size + 1) #[.int .i64 c] 58) := Lib.hid (by rw [← hu0.out]; exact HX_ch.out)
    have HX_li0 : Hid (Bx u0 (w.heap.size + 1 + 1 + 1) #[.slice (some ⟨w.heap.size + 1 + 1, 0, none⟩) n n] 23) := Lib.hid (by rw [← hu0.out]; exact HX_li.out)
    have HO_df0 : Hid (DfA u0 D) := Lib.hid (by rw [← hu0.out]; exact HO_df.out)
    have HW0 : Hid (Bx u0 (w.heap.size + 1 + 1) (cProof (lstP ks tp n (othF n q n))).toArray 54) := Lib.hid (by rw [← hu0.out]; exact HW.out)
    clear hu0
    refine wpAnyH_take (i := 0) (oi := { dst := some 40, op := Op.load 23 (Operand.tmp 9), type := 23, pos := "l15_either.go:50", after := #[], guard := none }) (v := ?_) rfl (by kernel_rfl) (by kernel_rfl) (by kernel_rfl) (fun _ _ _ h => h) (Or.inl ⟨by rfl, ?_⟩) hHeld ?_
    rotate_left
    · intro w hSw; obtain ⟨s0, s1, s2, s3⟩ := hSw; (try dsimp only at hSw); go_simp; (try with_reducible rfl)
    try simp only [Act.put, List.setIfInBounds_toArray, List.set_cons_zero, List.set_cons_succ]
    refine wpAnyH_take (i := 1) (oi := { dst := some 41, op := Op.fieldAddr 60 (Operand.tmp 4) 0, type := 0, pos := "l15_either.go:50", after := #[], guard := none }) (v := ?_) rfl (by kernel_rfl) (by kernel_rfl) (by kernel_rfl) (fun _ _ _ h => h) (Or.inl ⟨by rfl, ?_⟩) hHeld ?_
    rotate_left
    · intro w hSw; obtain ⟨s0, s1, s2, s3⟩ := hSw; (try dsimp only at hSw); go_simp; (try with_reducible rfl)
    try simp only [Act.put, List.setIfInBounds_toArray, List.set_cons_zero, List.set_cons_succ]
    refine wpAnyH_take (i := 2) (oi := { dst := some 42, op := Op.load 3 (Operand.tmp 41), type := 3, pos := "l15_either.go:50", after := #[{ on := 1, ground := Ground.data }], guard := none }) (v := ?_) rfl (by kernel_rfl) (by kernel_rfl) (by kernel_rfl) (fun _ _ _ h => h) (Or.inl ⟨by rfl, ?_⟩) hHeld ?_
    rotate_left
    · intro w hSw; obtain ⟨s0, s1, s2, s3⟩ := hSw; (try dsimp only at hSw); go_simp; (try with_reducible rfl)
    try simp only [Act.put, List.setIfInBounds_toArray, List.set_cons_zero, List.set_cons_succ]
    refine wpAnyH_take (i := 3) (oi := { dst := some 43, op := Op.move (Operand.tmp 3), type := 109, pos := "l15_either.go:50", after := #[], guard := none }) (v := ?_) rfl (by kernel_rfl) (by kernel_rfl) (by kernel_rfl) (fun _ _ _ h => h) (Or.inl ⟨by rfl, ?_⟩) hHeld ?_
    rotate_left
    · intro w hSw; obtain ⟨s0, s1, s2, s3⟩ := hSw; (try dsimp only at hSw); go_simp; (try with_reducible rfl)
    try simp only [Act.put, List.setIfInBounds_toArray, List.set_cons_zero, List.set_cons_succ]
    refine wpAnyH_take (i := 4) (oi := { dst := some 44, op := Op.fieldAddr 60 (Operand.tmp 4) 0, type := 0, pos := "l15_either.go:50", after := #[], guard := none }) (v := ?_) rfl (by kernel_rfl) (by kernel_rfl) (by kernel_rfl) (fun _ _ _ h => h) (Or.inl ⟨by rfl, ?_⟩) hHeld ?_
    rotate_left
    · intro w hSw; obtain ⟨s0, s1, s2, s3⟩ := hSw; (try dsimp only at hSw); go_simp; (try with_reducible rfl)
    try simp only [Act.put, List.setIfInBounds_toArray, List.set_cons_zero, List.set_cons_succ]
    refine wpAnyH_take (i := 5) (oi := { dst := some 45, op := Op.load 3 (Operand.tmp 44), type := 3, pos := "l15_either.go:50", after := #[{ on := 4, ground := Ground.data }], guard := none }) (v := ?_) rfl (by kernel_rfl) (by kernel_rfl) (by kernel_rfl) (fun _ _ _ h => h) (Or.inl ⟨by rfl, ?_⟩) hHeld ?_
    rotate_left
    · intro w hSw; obtain ⟨s0, s1, s2, s3⟩ := hSw; (try dsimp only at hSw); go_simp; (try with_reducible rfl)
    try simp only [Act.put, List.setIfInBounds_toArray, List.set_cons_zero, List.set_cons_succ]
    refine wpAnyH_take (i := 6) (oi := { dst := some 46, op := Op.fieldAddr 60 (Operand.tmp 4) 1, type := 0, pos := "l15_either.go:50", after := #[], guard := none }) (v := ?_) rfl (by kernel_rfl) (by kernel_rfl) (by kernel_rfl) (fun _ _ _ h => h) (Or.inl ⟨by rfl, ?_⟩) hHeld ?_
    rotate_left
    · intro w hSw; obtain ⟨s0, s1, s2, s3⟩ := hSw; (try dsimp only at hSw); go_simp; (try with_reducible rfl)
    try simp only [Act.put, List.setIfInBounds_toArray, List.set_cons_zero, List.set_cons_succ]
    refine wpAnyH_take (i := 7) (oi := { dst := some 47, op := Op.load 58 (Operand.tmp 46), type := 58, pos := "l15_either.go:50", after := #[{ on := 6, ground := Ground.data }], guard := none }) (v := ?_) rfl (by kernel_rfl) (by kernel_rfl) (by kernel_rfl) (fun _ _ _ h => h) (Or.inl ⟨by rfl, ?_⟩) hHeld ?_
    rotate_left
    · intro w hSw; obtain ⟨s0, s1, s2, s3⟩ := hSw; (try dsimp only at hSw); go_simp; (try with_reducible rfl)
    try simp only [Act.put, List.setIfInBounds_toArray, List.set_cons_zero, List.set_cons_succ]
    refine wpAnyH_take (i := 8) (oi := { dst := some 48, op := Op.move (Operand.tmp 12), type := 58, pos := "l15_either.go:50", after := #[], guard := none }) (v := ?_) rfl (by kernel_rfl) (by kernel_rfl) (by kernel_rfl) (fun _ _ _ h => h) (Or.inl ⟨by rfl, ?_⟩) hHeld ?_
    rotate_left
    · intro w hSw; obtain ⟨s0, s1, s2, s3⟩ := hSw; (try dsimp only at hSw); go_simp; (try with_reducible rfl)
    try simp only [Act.put, List.setIfInBounds_toArray, List.set_cons_zero, List.set_cons_succ]
    refine wpAnyH_take (i := 9) (oi := { dst := some 49, op := Op.load 58 (Operand.tmp 5), type := 58, pos := "l15_either.go:50", after := #[], guard := none }) (v := ?_) rfl (by kernel_rfl) (by kernel_rfl) (by kernel_rfl) (fun _ _ _ h => h) (Or.inl ⟨by rfl, ?_⟩) hHeld ?_
    rotate_left
    · intro w hSw; obtain ⟨s0, s1, s2, s3⟩ := hSw; (try dsimp only at hSw); go_simp; (try with_reducible rfl)
    try simp only [Act.put, List.setIfInBounds_toArray, List.set_cons_zero, List.set_cons_succ]
    refine wpAnyH_ready (rs := [10]) (by kernel_rfl) (by simp) ?_
    refine AllReadyH.cons (o := { dst := some 50, op := Op.call { callee := Callee.value (Operand.func 91), args := #[Operand.tmp 47, Operand.tmp 48, Operand.tmp 49], argTypes := #[58, 58, 58] }, type := 64, pos := "l15_either.go:50", after := #[{ on := 7, ground := Ground.data }, { on := 8, ground := Ground.data }, { on := 9, ground := Ground.data }], guard := none }) rfl (fun K hK => ?_) ?_
    · go_simp
      refine ((HAN u0).out).mono ?_
      rintro e u1 ⟨rfl, hb_⟩
      have zs1 : u0.heap.size ≤ u1.heap.size := hb_.size
      have HBl1 : Hid (Below w.heap.size w u1) := Lib.hid (HBl0.out.trans (hb_.mono HBl0.out.size))
      have HX_kn1 : Hid (Bx u1 w.heap.size #[.int .i64 q, .int .i64 s] 60) := Lib.hid (HX_kn0.out.below hb_ HX_kn0.out.lt)
      have HX_ch1 : Hid (Bx u1 (w.heap.size + 1) #[.int .i64 c] 58) := Lib.hid (HX_ch0.out.below hb_ HX_ch0.out.lt)
      have HX_li1 : Hid (Bx u1 (w.heap.size + 1 + 1 + 1) #[.slice (some ⟨w.heap.size + 1 + 1, 0, none⟩) n n] 23) := Lib.hid (HX_li0.out.below hb_ HX_li0.out.lt)
      have HO_df1 := Lib.hid (HO_df0.out.below hb_ (by omega))
      have HW1 : Hid (Bx u1 (w.heap.size + 1 + 1) (cProof (lstP ks tp n (othF n q n))).toArray 54) := Lib.hid (HW0.out.below hb_ HW0.out.lt)
      clear hHeld hb_ HBl0 HX_kn0 HX_ch0 HX_li0 HO_df0 HW0
      (try dsimp only)
      (try go_wp2_with fail)
      refine hK.out _ _ ⟨HX_kn1.out.cell 0, HX_kn1.out.cell 1, HX_ch1.out.cell 0, HX_li1.out.cell 0⟩ (fun hHeld => ?_)
      clear hK K
      try simp only [Act.put, List.setIfInBounds_toArray, List.set_cons_zero, List.set_cons_succ]
      refine wpAnyH_ready (rs := [11]) (by kernel_rfl) (by simp) ?_
      refine AllReadyH.cons (o := { dst := some 51, op := Op.call { callee := Callee.value (Operand.tmp 43), args := #[Operand.tmp 45, Operand.tmp 50], argTypes := #[3, 64] }, type := 54, pos := "l15_either.go:50", after := #[{ on := 3, ground := Ground.data }, { on := 5, ground := Ground.data }, { on := 10, ground := Ground.data }, { on := 10, ground := Ground.chain }], guard := none }) rfl (fun K hK => ?_) ?_
      · go_simp
        refine ((HF8.out u1 HBl1.out)).mono ?_
        rintro e u2 ⟨rfl, hb_⟩
        have zs2 : u1.heap.size ≤ u2.heap.size := hb_.size
        have HBl2 : Hid (Below w.heap.size w u2) := Lib.hid (HBl1.out.trans (hb_.mono HBl1.out.size))
        have HX_kn2 : Hid (Bx u2 w.heap.size #[.int .i64 q, .int .i64 s] 60) := Lib.hid (HX_kn1.out.below hb_ HX_kn1.out.lt)
        have HX_ch2 : Hid (Bx u2 (w.heap.size + 1) #[.int .i64 c] 58) := Lib.hid (HX_ch1.out.below hb_ HX_ch1.out.lt)
        have HX_li2 : Hid (Bx u2 (w.heap.size + 1 + 1 + 1) #[.slice (some ⟨w.heap.size + 1 + 1, 0, none⟩) n n] 23) := Lib.hid (HX_li1.out.below hb_ HX_li1.out.lt)
        have HO_df2 := Lib.hid (HO_df1.out.below hb_ (by omega))
        have HW2 : Hid (Bx u2 (w.heap.size + 1 + 1) (cProof (lstP ks tp n (othF n q n))).toArray 54) := Lib.hid (HW1.out.below hb_ HW1.out.lt)
        clear hHeld hb_ HBl1 HX_kn1 HX_ch1 HX_li1 HO_df1 HW1
        (try dsimp only)
        (try go_wp2_with fail)
        refine hK.out _ _ ⟨HX_kn2.out.cell 0, HX_kn2.out.cell 1, HX_ch2.out.cell 0, HX_li2.out.cell 0⟩ (fun hHeld => ?_)
        clear hK K
        try simp only [Act.put, List.setIfInBounds_toArray, List.set_cons_zero, List.set_cons_succ]
        refine wpAnyH_take (i := 12) (oi := { dst := some 52, op := Op.indexAddr 23 (Operand.tmp 40) (Operand.tmp 42), type := 0, pos := "l15_either.go:50", after := #[{ on := 0, ground := Ground.data }, { on := 2, ground := Ground.data }, { on := 0, ground := Ground.phase }, { on := 1, ground := Ground.phase }, { on := 2, ground := Ground.phase }, { on := 3, ground := Ground.phase }, { on := 4, ground := Ground.phase }, { on := 5, ground := Ground.phase }, { on := 6, ground := Ground.phase }, { on := 7, ground := Ground.phase }, { on := 8, ground := Ground.phase }, { on := 9, ground := Ground.phase }, { on := 10, ground := Ground.phase }, { on := 11, ground := Ground.phase }], guard := none }) (v := ?_) rfl (by kernel_rfl) (by kernel_rfl) (by kernel_rfl) (fun _ _ _ h => h) (Or.inl ⟨by rfl, ?_⟩) hHeld ?_
        rotate_left
        · intro w hSw; obtain ⟨s0, s1, s2, s3⟩ := hSw; (try dsimp only at hSw); go_simp; (try with_reducible rfl)
        try simp only [Act.put, List.setIfInBounds_toArray, List.set_cons_zero, List.set_cons_succ]
        refine wpAnyH_ready (rs := [13]) (by kernel_rfl) (by simp) ?_
        refine AllReadyH.cons (o := { dst := none, op := Op.store 54 (Operand.tmp 52) (Operand.tmp 51), type := 0, pos := "l15_either.go:50", after := #[{ on := 12, ground := Ground.data }, { on := 11, ground := Ground.data }, { on := 11, ground := Ground.chain }, { on := 0, ground := Ground.phase }, { on := 1, ground := Ground.phase }, { on := 2, ground := Ground.phase }, { on := 3, ground := Ground.phase }, { on := 4, ground := Ground.phase }, { on := 5, ground := Ground.phase }, { on := 6, ground := Ground.phase }, { on := 7, ground := Ground.phase }, { on := 8, ground := Ground.phase }, { on := 9, ground := Ground.phase }, { on := 10, ground := Ground.phase }, { on := 11, ground := Ground.phase }], guard := none }) rfl (fun K hK => ?_) ?_
        · obtain ⟨⟨xv0, xc0⟩, ⟨xv1, xc1⟩, ⟨xv2, xc2⟩, xff⟩ := bx_row3 HW2.out (by rw [lstP_len]; exact hq)
          have xf0 := xff (q * 3)
          have xf1 := xff (q * 3 + 1)
          have xf2 := xff (q * 3 + 2)
          go_simp
          obtain ⟨u3, hw3⟩ : ∃ W, Hid ((((u2.setCell ⟨w.heap.size + 1 + 1, q * 3, none⟩ (.int .i64 bk)).setCell ⟨w.heap.size + 1 + 1, q * 3 + 1, none⟩ (.int .i64 c)).setCell ⟨w.heap.size + 1 + 1, q * 3 + 2, none⟩ (.int .i64 rr)) = W) := ⟨_, Lib.hid rfl⟩
          rw [hw3.out]
          have hk3 : Kept (w.heap.size + 1 + 1) (w.heap.size + 1 + 1 + 1) u2 u3 := by rw [← hw3.out]; exact (((Kept.refl _ _ _).setCell (p := ⟨w.heap.size + 1 + 1, q * 3, none⟩) (Nat.le_refl _) (Nat.lt_succ_self _) _).setCell (p := ⟨w.heap.size + 1 + 1, q * 3 + 1, none⟩) (Nat.le_refl _) (Nat.lt_succ_self _) _).setCell (p := ⟨w.heap.size + 1 + 1, q * 3 + 2, none⟩) (Nat.le_refl _) (Nat.lt_succ_self _) _
          have zs3 : u2.heap.size ≤ u3.heap.size := hk3.size
          have HBl3 : Hid (Below w.heap.size w u3) := Lib.hid (by rw [← hw3.out]; exact (((HBl2.out).setCell (p := ⟨w.heap.size + 1 + 1, q * 3, none⟩) (by simp only; omega) _).setCell (p := ⟨w.heap.size + 1 + 1, q * 3 + 1, none⟩) (by simp only; omega) _).setCell (p := ⟨w.heap.size + 1 + 1, q * 3 + 2, none⟩) (by simp only; omega) _)
          have HW3 : Hid (Bx u3 (w.heap.size + 1 + 1) (cProof ((lstP ks tp n (othF n q n)).set q (bk, c, rr))).toArray 54) := Lib.hid (by rw [← hw3.out]; exact enc_set3 HW2.out bk c rr)
          have HX_kn3 : Hid (Bx u3 w.heap.size #[.int .i64 q, .int .i64 s] 60) := Lib.hid (HX_kn2.out.kept hk3 (by omega))
          have HX_ch3 : Hid (Bx u3 (w.heap.size + 1) #[.int .i64 c] 58) := Lib.hid (HX_ch2.out.kept hk3 (by omega))
          have HX_li3 : Hid (Bx u3 (w.heap.size + 1 + 1 + 1) #[.slice (some ⟨w.heap.size + 1 + 1, 0, none⟩) n n] 23) := Lib.hid (HX_li2.out.kept hk3 (by omega))
          have HO_df3 := Lib.hid (HO_df2.out.kept hk3 (by omega) (by omega))
          clear hHeld hw3 hk3 xc0 xc1 xc2 xf0 xf1 xf2 xff HBl2 HX_kn2 HX_ch2 HX_li2 HO_df2 HW2
          refine hK.out _ _ ⟨HX_kn3.out.cell 0, HX_kn3.out.cell 1, HX_ch3.out.cell 0, HX_li3.out.cell 0⟩ (fun hHeld => ?_)
          clear hK K
          try simp only [Act.put]
          refine wpAnyH_done (by kernel_rfl) ?_ _
          simp only [OnlyN]
          have xL : u3.cell? ⟨w.heap.size + 1 + 1 + 1, 0, none⟩ = some (.slice (some ⟨w.heap.size + 1 + 1, 0, none⟩) n n) := HX_li3.out.cell 0
          gi_wp2
          refine ⟨by simp, .inl ⟨_, _, rfl, run_takeDeferred HO_df3.out, ?_⟩⟩
          refine ⟨_, results_tmp rfl _ _ _, w.heap.size + 1 + 1, rfl, by omega, ?_, HBl3.out.trans (belowK_b (w := w) (Nat.le_refl _) u3 D _ _ (by omega) HO_df3.out rfl rfl)⟩
          rw [← HEND.out]
          exact bx_putObj HW3.out HO_df3.out rfl
        exact AllReadyH.nil
      exact AllReadyH.nil
    exact AllReadyH.nil
  case stop =>
    rintro D c pre W _ _ h _
    exact h.elim
end Go.Proofs.Ytdhakbpimbadgaa

/- The program's manyNumbers: just so many numbers. -/
namespace Go.Proofs.Ytdhakbpimbadgaa
open Go.RowKit
set_option maxRecDepth 100000

set_option maxHeartbeats 1000000 in
theorem i_manyNumbers (A : Option Addr) (n c : Nat) (zs : List Int) (m : Int) (w : World) (h : Rd w w.heap.size 1 A n (cI zs)) (hn : n ≤ 1048576) :
    Calls Try.prog 44 #[.slice A n c, .int .i64 m] w fun e w' => e = .returned (.bool (decide ((n : Int) = m) && numsB zs)) ∧ w = w' := by
  have H := Lib.hid h
  clear h
  by_cases hm : (n : Int) = m
  · have HF : Hid ((decide ((n : Int) = m) && numsB zs) = numsB zs) := Lib.hid (by simp [hm])
    subst hm
    go_enter Try.func44, Try.ntmps44
    go_wp2_with fail
    refine (i_numbersOk _ _ _ _ _ H.out hn).mono ?_
    rintro e w' ⟨rfl, rfl⟩
    go_wp2
    go_ret
    exact ⟨ret_bool HF.out.symm, rfl⟩
  · have HF : Hid ((decide ((n : Int) = m) && numsB zs) = false) := Lib.hid (by simp [hm])
    have hm2 : ((n : Int) == m) = false := by rw [beq_eq_false_iff_ne]; exact hm
    go_enter Try.func44, Try.ntmps44
    go_wp2
    go_ret
    exact ⟨ret_bool HF.out.symm, rfl⟩

end Go.Proofs.Ytdhakbpimbadgaa

/- Chapter 15: EitherMake of the program. Made by tools/gen15/r.py. -/
namespace Go.Proofs.Ytdhakbpimbadgaa
open Go.RowKit
set_option maxRecDepth 100000

theorem el_4 : elB 4 = true := by decide +kernel

set_option maxHeartbeats 8000000 in
theorem X_i_EitherMake (v v1 : Value) (ks : List Int) (i s ch : Int) (tp : List Int) (w : World) (h : RdIntS w w.heap.size v ks) (h1 : RdIntS w w.heap.size v1 tp) (hs : szIntS ks ≤ 1048576) (hs1 : szIntS tp ≤ 1048576) :
    Calls Try.prog 12 #[v, .int .i64 i, .int .i64 s, .int .i64 ch, v1] w fun e w' => ∃ g, e = .returned (.tuple #[g, .bool (R_EitherMake_1 ks i s ch tp)]) ∧ OwProofS w' w.heap.size w'.heap.size g (R_EitherMake_0 ks i s ch tp) ∧ Below w.heap.size w w' := by
  obtain ⟨A, n, c, rfl, _, h⟩ := h
  obtain ⟨A1, n1, c1, rfl, _, h1⟩ := h1
  have HL := Lib.hid h.len
  have HL1 := Lib.hid h1.len
  have hn : n ≤ 1048576 := by have := HL.out; unfold szIntS at hs; omega
  have hn1 : n1 ≤ 1048576 := by have := HL1.out; unfold szIntS at hs1; omega
  have H := Lib.hid h
  have H1 := Lib.hid h1
  clear h h1 hs hs1
  obtain ⟨W0, hW0⟩ : ∃ W, Hid ((w.alloc (.cells #[.slice A n c] 22)).alloc (.cells #[.int .i64 i, .int .i64 s] 60) = W) := ⟨_, Lib.hid rfl⟩
  have HB0 : Hid (Below w.heap.size w W0) := Lib.hid (by rw [← hW0.out]; exact ((Below.refl _ _).alloc (Nat.le_refl _) _).alloc (by simp only [World.size_alloc]; omega) _)
  have HK0 : Hid (Bx W0 w.heap.size #[.slice A n c] 22) := Lib.hid (by rw [← hW0.out]; exact (Bx.new _ _ _).alloc _)
  have HX0 : Hid (Bx W0 (w.heap.size + 1) #[.int .i64 i, .int .i64 s] 60) := Lib.hid (by rw [← hW0.out]; have := Bx.new (w.alloc (.cells #[.slice A n c] 22)) #[.int .i64 i, .int .i64 s] 60; simp only [World.size_alloc] at this; exact this)
  have z0 := HB0.out.size
  have k0 : W0.cell? ⟨w.heap.size, 0, none⟩ = some (.slice A n c) := HK0.out.cell 0
  have f0 : W0.cell? ⟨w.heap.size + 1, 0, none⟩ = some (.int .i64 i) := HX0.out.cell 0
  have f1 : W0.cell? ⟨w.heap.size + 1, 1, none⟩ = some (.int .i64 s) := HX0.out.cell 1
  go_enter Try.func12, Try.ntmps12
  go_upto_region 2 with (fail)
  rw [hW0.out]
  clear hW0
  go_wp2_with fail
  refine (i_keysOk A n c ks W0 ((H.out.below HB0.out).more z0) hn).mono ?_
  rintro e w' ⟨rfl, rfl⟩
  cases hk : keysB ks
  · have HF := emk_no (ks := ks) (i := i) (s := s) (ch := ch) (tp := tp) (by unfold emakeB; rw [hk]; rfl)
    go_wp2
    go_ret2
    exact ⟨_, ret_vb5 HF.out.1, by rw [HF.out.2]; exact OwProofS.nil5 _ _ _, HB0.out⟩
  go_wp2_with fail
  refine (i_known_ok A n c ks i s W0 ((H.out.below HB0.out).more z0) hn).mono ?_
  rintro e w2 ⟨rfl, hb⟩
  have HB2 : Hid (Below w.heap.size w w2) := Lib.hid (HB0.out.trans (hb.mono z0))
  have HX2 := Lib.hid (HX0.out.below hb HX0.out.lt)
  have HK2 := Lib.hid (HK0.out.below hb HK0.out.lt)
  have z2 := HB2.out.size
  clear k0 f0 f1 hb HB0 HX0 HK0 z0
  cases ho : ownB ks i s
  · have HF := emk_no (ks := ks) (i := i) (s := s) (ch := ch) (tp := tp) (by unfold emakeB; rw [ho]; simp)
    go_wp2
    go_ret2
    exact ⟨_, ret_vb5 HF.out.1, by rw [HF.out.2]; exact OwProofS.nil5 _ _ _, HB2.out⟩
  go_wp2_with fail
  refine (i_NumOk ch w2).mono ?_
  rintro e w' ⟨rfl, rfl⟩
  cases hc : numB ch
  · have HF := emk_no (ks := ks) (i := i) (s := s) (ch := ch) (tp := tp) (by unfold emakeB; rw [hc]; simp)
    go_wp2
    go_ret2
    exact ⟨_, ret_vb5 HF.out.1, by rw [HF.out.2]; exact OwProofS.nil5 _ _ _, HB2.out⟩
  have hk6 := keysB_len hk
  rw [HL.out] at hk6
  have iw : IntKind.i64.wrap (2 * (n : Int)) = 2 * (n : Int) := IntWalk.i64_in _ (by omega)
  have k2 : w2.cell? ⟨w.heap.size, 0, none⟩ = some (.slice A n c) := HK2.out.cell 0
  have f0 : w2.cell? ⟨w.heap.size + 1, 0, none⟩ = some (.int .i64 i) := HX2.out.cell 0
  have f1 : w2.cell? ⟨w.heap.size + 1, 1, none⟩ = some (.int .i64 s) := HX2.out.cell 1
  go_wp2_with fail
  refine (i_manyNumbers A1 n1 c1 tp (2 * (n : Int)) w2 ((H1.out.below HB2.out).more z2) hn1).mono ?_
  rintro e w' ⟨rfl, rfl⟩
  cases hm : (decide ((n1 : Int) = 2 * (n : Int)) && numsB tp)
  · have HF := emk_no (ks := ks) (i := i) (s := s) (ch := ch) (tp := tp) (by
      have hx : (decide (tp.length = 2 * ks.length) && numsB tp) = false := by
        rw [← hm, HL.out, HL1.out]; congr 1; rw [decide_eq_decide]; omega
      unfold emakeB; rw [hx]; simp)
    go_wp2
    go_ret2
    exact ⟨_, ret_vb5 HF.out.1, by rw [HF.out.2]; exact OwProofS.nil5 _ _ _, HB2.out⟩
  simp only [Bool.and_eq_true, decide_eq_true_eq] at hm
  obtain ⟨hnt, hnu⟩ := hm
  have hnt' : n1 = 2 * n := by omega
  have HF := emk_yes (ks := ks) (i := i) (s := s) (ch := ch) (tp := tp) (by
    unfold emakeB; rw [hk, ho, hc, hnu]
    simp only [Bool.true_and, Bool.and_true, decide_eq_true_eq]
    rw [HL.out, HL1.out]; exact hnt')
  obtain ⟨⟨i0, i1⟩, ⟨s0, s1⟩, hown⟩ := ownB_at ho
  obtain ⟨q, rfl⟩ := Int.eq_ofNat_of_zero_le i0
  rw [Int.toNat_natCast] at HF hown
  rw [HL.out] at i1
  have hq : q < n := by omega
  obtain ⟨ch0, ch1⟩ := (numB_iff ch).1 hc
  have HEL : Hid (elsB ks = true) := Lib.hid (by simp only [keysB, Bool.and_eq_true] at hk; exact hk.2)
  have HMAIN := Lib.hid (i_proofsBy w.heap.size n q n1 c1 A1 ks tp s ch w2 (fun W k cc r hb hkn cc0 cc1 r0 r1 => by
    have hzW := hb.size
    have hel := elB_range (elsB_el HEL.out (k := k) (by have := HL.out; omega))
    exact i_feignP w.heap.size A n c k ks (ks.getD k 0) cc r W (HK2.out.below hb HK2.out.lt) (((H.out.below HB2.out).more z2 |>.below hb).more hzW) hkn rfl cc0 cc1 r0 r1 (by omega) (by omega)) (by omega) hnt' ((H1.out.below HB2.out).more z2) hnu hq s0 s1 ch0 ch1)
  have HLIST : Hid (((List.range n).map (otherP ks tp)).set q (backI 4 (ks.getD q 0) ((tp.getD (2 * q) 0 + restK tp q ch n * s) % 113) (restK tp q ch n), restK tp q ch n, (tp.getD (2 * q) 0 + restK tp q ch n * s) % 113) = emakeL ks q s ch tp) := Lib.hid (by
    have hr := restK_bd (tp := tp) (i := q) ⟨ch0, ch1⟩ n
    have ht := numsB_at5 hnu (k := 2 * q) (by have := HL1.out; omega)
    have hmade := made_is (b := 4) (s := s) (n := tp.getD (2 * q) 0) (c := restK tp q ch n) el_4 ⟨s0, s1⟩ ht.1 hr
    rw [Int.add_emod_emod] at hmade
    unfold emakeL ownP
    rw [HL.out, ← hown, hmade])
  clear hk ho hc hnu hnt hnt' hown HEL
  go_wp2_with fail
  clear k2 f0 f1
  refine HMAIN.out.mono ?_
  rintro e w3 ⟨g, rfl, hg, hbx, hb⟩
  rw [HLIST.out] at hbx
  have HB3 : Hid (Below w.heap.size w w3) := Lib.hid (HB2.out.trans (hb.mono z2))
  have hlen : Hid ((emakeL ks q s ch tp).length = n) := Lib.hid (by rw [emakeL_length, HL.out])
  have HO : Hid (OwProofS w3 w.heap.size w3.heap.size (.slice (some ⟨g, 0, none⟩) n n) (emakeL ks q s ch tp)) := Lib.hid ⟨by rw [hlen.out]; omega, some ⟨g, 0, none⟩, n, n, rfl, by rw [cProof_length, hlen.out], Nat.le_refl _, .inr ⟨g, _, rfl, by omega, hbx.lt, hbx, by rw [List.take_of_length_le (by rw [cProof_length, hlen.out]; exact Nat.le_refl _)]⟩⟩
  clear hbx hb HMAIN HLIST
  go_wp2
  go_ret2
  exact ⟨_, ret_vb5 HF.out.1, by rw [HF.out.2]; exact HO.out, HB3.out⟩
end Go.Proofs.Ytdhakbpimbadgaa

/- Chapter 15: that a list that is made is good (P92). Made by tools/plain/p19.py. -/
namespace Go.Proofs.Ytdhakbpimbadgaa
open Go.RowKit
set_option maxRecDepth 100000

/-! the list that is made is good -/
theorem emake_get {ks : List Int} {q k : Nat} {s ch : Int} {tp : List Int} (hk : k < ks.length) :
    (emakeL ks q s ch tp).getD k (0, 0, 0) = if k = q then ownP s (tp.getD (2 * q) 0) (restK tp q ch ks.length) else otherP ks tp k := by
  unfold emakeL
  rw [List.getD_eq_getElem?_getD, List.getElem?_set]
  by_cases h : q = k
  · subst h; rw [if_pos rfl, if_pos rfl, if_pos (by rw [List.length_map, List.length_range]; exact hk)]; rfl
  · rw [if_neg h, if_neg (fun e => h e.symm)]; simp [hk]
theorem emake_chal {ks : List Int} {q : Nat} {s ch : Int} {tp : List Int} (hq : q < ks.length) {k : Nat} (hk : k ≤ ks.length) :
    (chalK (emakeL ks q s ch tp) k + restK tp q ch k) % 113 = (ch + if q < k then restK tp q ch ks.length else 0) % 113 := by
  induction k with
  | zero => rw [if_neg (by omega)]; unfold chalK restK; omega
  | succ k ih =>
    have ih := ih (by omega)
    unfold chalK
    rw [emake_get (show k < ks.length by omega)]
    obtain ⟨a, ha⟩ : ∃ a, chalK (emakeL ks q s ch tp) k = a := ⟨_, rfl⟩
    obtain ⟨R, hR⟩ : ∃ R, restK tp q ch ks.length = R := ⟨_, rfl⟩
    rw [ha, hR] at ih
    rw [ha, hR]
    by_cases h : k = q
    · subst h
      rw [if_neg (by omega)] at ih
      have e : restK tp k ch (k + 1) = restK tp k ch k := if_pos rfl
      rw [e, if_pos rfl, if_pos (by omega)]
      show ((a + R) % 113 + _) % 113 = _
      omega
    · have e : restK tp q ch (k + 1) = (restK tp q ch k - tp.getD (2 * k) 0) % 113 := if_neg h
      have hif : (if q < k + 1 then R else 0) = if q < k then R else 0 := by
        by_cases h2 : q < k
        · rw [if_pos h2, if_pos (by omega)]
        · rw [if_neg h2, if_neg (by omega)]
      rw [e, if_neg h, hif]
      show ((a + tp.getD (2 * k) 0) % 113 + _) % 113 = _
      omega
theorem goodsK_all {ks : List Int} {l : List Pf} {n : Nat} (h : ∀ k, k < n → pfGood (ks.getD k 0) (l.getD k (0, 0, 0)) = true) : goodsK ks l n = true := by
  induction n with
  | zero => rfl
  | succ n ih => unfold goodsK; rw [ih (fun k hk => h k (by omega)), h n (by omega)]; rfl
theorem egood_make {ks : List Int} {i s ch : Int} {tp : List Int} (h : emakeB ks i s ch tp = true) : egoodB ks ch (emakeL ks i.toNat s ch tp) = true := by
  unfold emakeB at h
  simp only [Bool.and_eq_true, decide_eq_true_eq] at h
  obtain ⟨hk, ho, hc, ht, hn⟩ := h
  obtain ⟨⟨i0, i1⟩, hs, hown⟩ := ownB_at ho
  obtain ⟨q, rfl⟩ := Int.eq_ofNat_of_zero_le i0
  rw [Int.toNat_natCast] at hown ⊢
  have hq : q < ks.length := by omega
  have hcb := (numB_iff ch).1 hc
  have hel : elsB ks = true := by simp only [keysB, Bool.and_eq_true] at hk; exact hk.2
  have hR := restK_bd (tp := tp) (i := q) hcb ks.length
  have hchal := emake_chal (s := s) (tp := tp) (ch := ch) hq (Nat.le_refl ks.length)
  rw [if_pos hq] at hchal
  have hcl := chalK_bd0 (emakeL ks q s ch tp) ks.length
  unfold egoodB goodsB
  rw [hk, hc, emakeL_length, decide_eq_true (show chalK (emakeL ks q s ch tp) ks.length = ch by omega), goodsK_all]
  · simp
  · intro k hkl
    have htb := numsB_at5 hn (k := 2 * k) (by omega)
    have htb1 := numsB_at5 hn (k := 2 * k + 1) (by omega)
    rw [emake_get hkl]
    by_cases e : k = q
    · subst e
      rw [if_pos rfl]
      have hmade := made_is (b := 4) (s := s) (n := tp.getD (2 * k) 0) (c := restK tp k ch ks.length) el_4 hs htb.1 hR
      rw [Int.add_emod_emod, hown] at hmade
      show goodB (ks.getD k 0) (powI 4 (tp.getD (2 * k) 0) 227) (restK tp k ch ks.length) ((tp.getD (2 * k) 0 + restK tp k ch ks.length * s) % 113) = true
      rw [← hmade]
      refine good_back ?_
      simp only [feignB, Bool.and_eq_true]
      exact ⟨elsB_el hel hkl, (numB_iff _).2 hR, (numB_iff _).2 ⟨by omega, by omega⟩⟩
    · rw [if_neg e]
      show goodB (ks.getD k 0) (backI 4 (ks.getD k 0) (tp.getD (2 * k + 1) 0) (tp.getD (2 * k) 0)) (tp.getD (2 * k) 0) (tp.getD (2 * k + 1) 0) = true
      refine good_back ?_
      simp only [feignB, Bool.and_eq_true]
      exact ⟨elsB_el hel hkl, (numB_iff _).2 htb, (numB_iff _).2 htb1⟩

/-! the draw -/
theorem results_five {fn : Func} {t u v x y : Tmp} (h : fn.results = #[.tmp t, .tmp u, .tmp v, .tmp x, .tmp y]) (tmps : Array Value) (P : Program) (w : World) :
    (results fn tmps).run P w = .ok (.tuple #[tmps.getD t undef, tmps.getD u undef, tmps.getD v undef, tmps.getD x undef, tmps.getD y undef]) w := by
  simp [results, h]
set_option maxHeartbeats 2000000 in
theorem d_l92EitherMake (g hi p : Nat) (A : Option Addr) (n c : Nat) (bs : List Int) (w : World) (h : Rdr w g hi p A n c bs) (hp : p < 890000) :
    Calls Try.prog 67 #[.pointer (some ⟨g, 0, none⟩)] w fun e w' => ∃ v d i s ch v1 t, e = .returned (.tuple #[v, .int .i64 i, .int .i64 s, .int .i64 ch, v1]) ∧ OwIntS w' w.heap.size w'.heap.size v d ∧ OwIntS w' w.heap.size w'.heap.size v1 t ∧ Kept g (g + 1) w w' := by
  have hgw : g < w.heap.size := h.lt
  have HR := Lib.hid h
  clear h
  go_enter Try.func67, Try.ntmps67
  go_wp2_with fail
  refine (d_l92Keys _ _ _ _ _ _ _ _ HR.out (by omega)).mono ?_
  rintro e w1 ⟨v, d, i, s, q1, rfl, ho, hd, hq1, h2, k2⟩
  have HOk := Lib.hid ho
  have HRn := Lib.hid h2
  have HK := Lib.hid k2
  have z1 := k2.size
  clear ho h2 k2 HR
  obtain ⟨Av, nv, cv, hvv⟩ : ∃ A n c, v = .slice A n c := by obtain ⟨_, A, n, c, rfl, _⟩ := HOk.out; exact ⟨_, _, _, rfl⟩
  subst hvv
  have hnv : Hid (nv = d.length) := Lib.hid (by obtain ⟨_, A1, n1, c1, e, r⟩ := HOk.out; injection e with e1 e2 e3; subst e2; exact r.len.symm)
  have hnv4 : nv ≤ 4 := by have := hnv.out; omega
  clear hnv hd
  go_wp2_with fail
  refine (d_l91Num _ _ _ _ _ _ _ _ HRn.out (by omega)).mono ?_
  rintro e w2 ⟨ch, q2, rfl, _, hq2, h2, k2⟩
  have z2 := k2.size
  replace HOk := Lib.hid ((HOk.out.kept k2 (by omega) (.inl (by omega))).widen (Nat.le_refl _) k2.size)
  have HRn := Lib.hid h2
  replace HK := Lib.hid (HK.out.trans k2)
  clear h2 k2
  have iw : IntKind.i64.wrap (2 * (nv : Int)) = 2 * (nv : Int) := IntWalk.i64_in _ (by omega)
  go_wp2_with fail
  refine (d_l91NumsL _ _ _ _ _ _ _ (2 * (nv : Int)) _ HRn.out (by omega) (by omega) (by omega)).mono ?_
  rintro e w3 ⟨v2, d2, q3, rfl, ho2, hd2, hq3, h2, k2⟩
  have z3 := k2.size
  have HOt : Hid (OwIntS w3 w.heap.size w3.heap.size v2 d2) := Lib.hid (ho2.widen (by omega) (Nat.le_refl _))
  replace HOk := Lib.hid ((HOk.out.kept k2 (by omega) (.inl (by omega))).widen (Nat.le_refl _) k2.size)
  replace HK := Lib.hid (HK.out.trans k2)
  obtain ⟨_, A5, n5, c5, rfl, _⟩ := ho2
  clear h2 k2 hd2
  go_wp2
  refine bodyPost_ret (results_five rfl _ _ _) rfl ?_
  exact ⟨_, _, _, _, _, _, _, rfl, HOk.out, HOt.out, HK.out⟩
set_option maxHeartbeats 2000000 in
theorem d_DrawEitherMake (A : Option Addr) (n c : Nat) (bs : List Int) (w : World) (h : Rd w w.heap.size 1 A n (cU bs)) (hb : Byt bs) (hn : n ≤ 1048576) (hc : n ≤ c) :
    Calls Try.prog 25 #[.slice A n c] w fun e w' => ∃ v d i s ch v1 t, e = .returned (.tuple #[v, .int .i64 i, .int .i64 s, .int .i64 ch, v1]) ∧ OwIntS w' w.heap.size w'.heap.size v d ∧ OwIntS w' w.heap.size w'.heap.size v1 t ∧ Below w.heap.size w w' := by
  have H := Lib.hid h
  clear h
  go_enter Try.func25, Try.ntmps25
  go_wp2_with fail
  refine (d_l6Open _ _ _ _ _ H.out hb hn hc).mono ?_
  rintro e w1 ⟨rfl, ⟨A', n', c', bs', h1⟩, hb1⟩
  have H1 := Lib.hid h1
  have B1 := Lib.hid hb1
  have hz1 := hb1.size
  clear h1 hb1
  go_wp2_with fail
  refine (d_l92EitherMake _ _ _ _ _ _ _ _ H1.out (by omega)).mono ?_
  rintro e w2 ⟨v, d, i, s, ch, v1, t, rfl, ho, ho2, k2⟩
  have B2 : Hid (Below w.heap.size w w2) := Lib.hid (B1.out.trans (k2.to_below B1.out.size))
  have HO := Lib.hid (ho.widen B1.out.size (Nat.le_refl _))
  have HO2 := Lib.hid (ho2.widen B1.out.size (Nat.le_refl _))
  clear ho ho2 k2
  go_wp2
  refine bodyPost_ret (results_five rfl _ _ _) rfl ?_
  exact ⟨_, _, _, _, _, _, _, rfl, HO.out, HO2.out, B2.out⟩

/-! the comparison -/
set_option maxHeartbeats 1000000 in
theorem u_uvProofs (A A' : Option Addr) (n c c' : Nat) (ps : List Pf) (w : World) (h : Rd w w.heap.size 3 A n (cProof ps)) (h' : Rd w w.heap.size 3 A' n (cProof ps)) (hn : n ≤ 1048576) :
    Calls Try.prog 26 #[.slice A n c, .slice A' n c'] w fun e w' => e = .returned (.bool true) ∧ ∃ m, w' = w.drewN m := by
  have H := Lib.hid h
  have H' := Lib.hid h'
  clear h h'
  go_enter Try.func26, Try.ntmps26
  go_wp2
  go_loopw [5] (fun i wr => ∃ k m : Nat, k ≤ n ∧ i = .int .i64 k ∧ wr = w.drewN m) (fun i _ => n - (intOf i).toNat)
  case atStart => exact ⟨0, 0, Nat.zero_le _, rfl, rfl⟩
  case round =>
    obtain ⟨k, m, hk, rfl, rfl⟩ := hrel
    by_cases hlt : k < n
    · obtain ⟨a, x, y, z, rfl, hab, hcx, hcy, hcz, HP⟩ := H.out.ProofAt hlt
      obtain ⟨a', x', y', z', rfl, hab', hdx, hdy, hdz, HP'⟩ := H'.out.ProofAt hlt
      obtain ⟨rfl, rfl, rfl⟩ : x' = x ∧ y' = y ∧ z' = z := by have := HP.out.symm.trans HP'.out; simpa using this.symm
      have i0 : (0 : Int) ≤ (k : Int) := by omega
      have i1 : (k : Int) < (n : Int) := by omega
      clear HP HP'
      go_wp2
      go_quiet (fail)
      go_wp2
      go_roundw
      case rel => exact ⟨k + 1, _, by omega, by go_num, rfl⟩
      case measure => simp [intOf] <;> omega
    · go_wp2
      go_ret
      exact ⟨rfl, _, rfl⟩
theorem U_uvProofs (v v' : Value) (hi hi' : Nat) (ps : List Pf) (w : World) (h : RdProofS w hi v ps) (h' : RdProofS w hi' v' ps) (hh : hi ≤ w.heap.size) (hh' : hi' ≤ w.heap.size) (hs : szProofS ps ≤ 1048576) :
    Calls Try.prog 26 #[v, v'] w fun e w' => e = .returned (.bool true) ∧ Below w.heap.size w w' := by
  obtain ⟨A, n, c, rfl, _, r⟩ := h
  obtain ⟨A', n', c', rfl, _, r'⟩ := h'
  have hl := r.Prooflen
  have hl' := r'.Prooflen
  obtain rfl : n' = n := by omega
  unfold szProofS at hs
  exact (u_uvProofs A A' _ c c' ps w (r.more hh) (r'.more hh') (by omega)).mono fun _ _ ⟨he, m, hm⟩ => ⟨he, by rw [hm]; exact below_drewN (Below.refl _ _) _⟩
end Go.Proofs.Ytdhakbpimbadgaa

/- Chapter 16: RingGood of the model. -/
namespace Go.Proofs.Ytdhakbpimbadgaa
open Go.RowKit
set_option maxRecDepth 100000

set_option maxHeartbeats 1000000 in
theorem s_l16Message (A : Option Addr) (n c : Nat) (zs : List Int) (w : World) (h : Rd w w.heap.size 1 A n (cI zs)) (hn : n ≤ 1048576) :
    Calls Try.prog 49 #[.slice A n c] w fun e w' => e = .returned (.bool (msgB zs)) ∧ w = w' := by
  have HL := Lib.hid h.len
  have H := Lib.hid h
  clear h
  by_cases h1 : n ≤ 8
  · have i1 : (n : Int) ≤ 8 := by omega
    have HF : Hid (numsB zs = msgB zs) := Lib.hid (by unfold msgB; rw [HL.out, decide_eq_true h1]; rfl)
    go_enter Try.func49, Try.ntmps49
    go_wp2_with fail
    refine (s_l1In _ _ _ _ _ H.out hn).mono ?_
    rintro e w' ⟨rfl, rfl⟩
    go_wp2
    go_ret
    exact ⟨ret_bool HF.out, rfl⟩
  · have i1 : ¬ (n : Int) ≤ 8 := by omega
    have HF : Hid (false = msgB zs) := Lib.hid (by unfold msgB; rw [HL.out, decide_eq_false h1]; rfl)
    go_enter Try.func49, Try.ntmps49
    go_wp2
    go_ret
    exact ⟨ret_bool HF.out, rfl⟩

set_option maxHeartbeats 4000000 in
theorem s_l16Chal (A1 : Option Addr) (n1 c1 : Nat) (msg : List Int) (A : Option Addr) (n c : Nat) (ks : List Int) (A2 : Option Addr) (n2 c2 : Nat) (l : List Pf) (w : World) (h : Rd w w.heap.size 1 A n (cI ks)) (h1 : Rd w w.heap.size 1 A1 n1 (cI msg)) (h2 : Rd w w.heap.size 3 A2 n2 (cProof l)) (hn : n ≤ 1048576) (hn1 : n1 ≤ 1048576) (hn2 : n2 ≤ 1048576) :
    Calls Try.prog 50 #[.slice A1 n1 c1, .slice A n c, .slice A2 n2 c2] w fun e w' => ∃ v : Int, e = .returned (.int .i64 v) ∧ Hid (mixB (msg ++ ks ++ comsP l) = true → v = rchal ks msg l) ∧ Below w.heap.size w w' := by
  have H := Lib.hid h
  have H1 := Lib.hid h1
  have H2 := Lib.hid h2
  have HL2 := Lib.hid h2.Prooflen
  clear h h1 h2
  obtain ⟨W0, hW0⟩ : ∃ W, Hid (w.alloc (.cells #[] 3) = W) := ⟨_, Lib.hid rfl⟩
  have HB0 : Hid (Below w.heap.size w W0) := Lib.hid (by rw [← hW0.out]; exact (Below.refl _ _).alloc (Nat.le_refl _) _)
  have HO0 : Hid (W0.ownsRow w.heap.size 3 1 (.slice (some ⟨w.heap.size, 0, none⟩) 0 0) 0 (cI [])) := Lib.hid (by rw [← hW0.out]; exact own_empty w 3 1)
  have z0 := HB0.out.size
  go_enter Try.func50, Try.ntmps50
  go_wp2_with (first
    | (at_builtin
       rw [hW0.out]
       refine wpList_append_rd2 rfl (.tmp 9) (.tmp 10) 22 22 3 rfl w.heap.size 3 _ 1 8 Try.underlying22 Try.underlying22 info_int rfl (by decide) _ 0 (cI []) rfl HO0.out w.heap.size _ n1 _ (cI msg) rfl (H1.out.below HB0.out) (cI_one _) (by unfold maxLen; omega) (by omega) z0 ?_
       intro v5 w5 hown hgr hat
       have HO5 : Hid (w5.ownsRow w.heap.size 3 1 v5 n1 (cI msg)) := Lib.hid (by rw [← cI_app, List.nil_append, Nat.zero_add] at hown; exact hown)
       have HB5 : Hid (Below w.heap.size w w5) := Lib.hid (below_grown HB0.out hgr (fun g e => own_ge HO0.out e) z0)
       have z5 := HB5.out.size
       clear hown hgr hat HO0 HB0 hW0)
    | (at_builtin
       refine wpList_append_rd2 rfl (.tmp 11) (.tmp 12) 22 22 3 rfl w.heap.size 3 _ 1 8 Try.underlying22 Try.underlying22 info_int rfl (by decide) v5 n1 (cI msg) rfl HO5.out w.heap.size _ n _ (cI ks) rfl (H.out.below HB5.out) (cI_one _) (by unfold maxLen; omega) (by omega) z5 ?_
       intro v6 w6 hown hgr hat
       have HO6 : Hid (w6.ownsRow w.heap.size 3 1 v6 (n1 + n + 0) (cI (msg ++ ks ++ comsP (l.take 0)))) := Lib.hid (by rw [← cI_app] at hown; simpa [comsP] using hown)
       have HB6 : Hid (Below w.heap.size w w6) := Lib.hid (below_grown HB5.out hgr (fun g e => own_ge HO5.out e) z5)
       clear hown hgr hat HO5 HB5 z5))
  clear z0
  go_loopw [7, 8] (fun t j wr => ∃ (k : Nat) (tv : Value), k ≤ n2 ∧ tv = t ∧ j = .int .i64 k ∧ Hid (wr.ownsRow w.heap.size 3 1 tv (n1 + n + k) (cI (msg ++ ks ++ comsP (l.take k)))) ∧ Hid (Below w.heap.size w wr)) (fun _ j _ => n2 - (intOf j).toNat)
  case atStart => exact ⟨0, _, Nat.zero_le _, rfl, rfl, HO6, HB6⟩
  case round =>
    clear HO6 HB6
    obtain ⟨k, tv, hkn, rfl, rfl, HO, HB⟩ := hrel
    by_cases hlt : k < n2
    · obtain ⟨a, x, y, z, rfl, hab, hcx0, hcy0, hcz0, HP⟩ := H2.out.ProofAt hlt
      have hba : (a.add (k * 3)).block < w.heap.size := by rw [add_block]; exact hab
      have hcx := (HB.out.cell (p := a.add (k * 3)) hba).trans hcx0
      clear hcx0 hcy0 hcz0
      have HT := Lib.hid (comsP_take l k (by have := HL2.out; omega) HP.out)
      clear HP
      obtain ⟨W1, hW1⟩ : ∃ W, Hid (wr.alloc (.cells #[.int .i64 x] 3) = W) := ⟨_, Lib.hid rfl⟩
      have hbs : Below wr.heap.size wr W1 := by rw [← hW1.out]; exact (Below.refl _ _).alloc (Nat.le_refl _) _
      have HB1 : Hid (Below w.heap.size w W1) := Lib.hid (HB.out.trans (hbs.mono HB.out.size))
      have HO1 := Lib.hid (ownsRow_below HO.out hbs)
      have HR1 : Hid (Rd W1 W1.heap.size 1 (some ⟨wr.heap.size, 0, none⟩) 1 (cI [x])) := Lib.hid (by rw [← hW1.out]; exact (Bx.new wr #[.int .i64 x] 3).rdI (zs := [x]) rfl)
      have z1 := HB1.out.size
      clear hbs HB HO
      go_wp2_with (at_builtin
                   rw [hW1.out]
                   refine wpList_append_rd2 rfl (.tmp 20) (.tmp 26) 22 22 3 rfl w.heap.size 3 _ 1 8 Try.underlying22 Try.underlying22 info_int rfl (by decide) tv (n1 + n + k) _ rfl HO1.out W1.heap.size _ 1 _ (cI [x]) rfl HR1.out (cI_one _) (by unfold maxLen; omega) (by omega) z1 ?_
                   intro v5 w5 hown hgr hat
                   have HO5 : Hid (w5.ownsRow w.heap.size 3 1 v5 (n1 + n + (k + 1)) (cI (msg ++ ks ++ comsP (l.take (k + 1))))) := Lib.hid (by rw [HT.out, ← List.append_assoc, cI_app (msg ++ ks ++ comsP (l.take k)), show n1 + n + (k + 1) = n1 + n + k + 1 by omega]; exact hown)
                   have HB5 : Hid (Below w.heap.size w w5) := Lib.hid (below_grown HB1.out hgr (fun g e => own_ge HO1.out e) z1)
                   clear hown hgr hat HO1 HB1 HR1 z1 hW1 HT hcx)
      go_roundw
      case rel => exact ⟨k + 1, v5, by omega, rfl, by go_num, HO5, HB5⟩
      case measure => simp [intOf] <;> omega
    · have hkn2 : k = n2 := by omega
      have HO2 : Hid (wr.ownsRow w.heap.size 3 1 tv (n1 + n + n2) (cI (msg ++ ks ++ comsP l))) := Lib.hid (by
        have := HO.out; rw [hkn2, List.take_of_length_le (by have := HL2.out; omega)] at this; exact this)
      clear HO hkn2
      obtain ⟨At, ct, htv, hot⟩ := Ow.of_own HO2.out
      subst htv
      have HR := Lib.hid hot.rd
      clear hot HO2
      go_wp2_with fail
      cases hm : mixB (msg ++ ks ++ comsP l)
      · have HV : ∀ v : Int, Hid (mixB (msg ++ ks ++ comsP l) = true → v = rchal ks msg l) := fun v => Lib.hid (by rw [hm]; intro h; cases h)
        clear hm
        refine (s_l16Mix_any _ _ _ _ _ wr HR.out (by omega)).mono ?_
        rintro e w' ⟨⟨v, rfl⟩, rfl⟩
        go_wp2
        go_ret
        exact ⟨v, rfl, HV v, HB.out⟩
      · have hr := s_l16Mix _ _ ct _ _ wr HR.out (by omega) hm
        rw [show mixL (msg ++ ks ++ comsP l) % 113 = rchal ks msg l from rfl] at hr
        clear hm
        refine hr.mono ?_
        clear hr
        rintro e w' ⟨rfl, rfl⟩
        go_wp2
        go_ret
        exact ⟨_, rfl, Lib.hid fun _ => rfl, HB.out⟩

end Go.Proofs.Ytdhakbpimbadgaa

/- Chapter 16: RingSign. Made by tools/gen15/s.py. -/
namespace Go.Proofs.Ytdhakbpimbadgaa
open Go.RowKit
set_option maxRecDepth 100000

theorem powI_bd4 (n : Int) : 0 ≤ powI 4 n 227 ∧ powI 4 n 227 ≤ 226 := by
  have h1 := powI_lo 4 n 227
  have h2 := powI_hi 4 n 227 (by decide)
  exact ⟨h1, h2⟩
theorem mixB_make (ks : List Int) (q : Nat) (s ch : Int) (tp : List Int) : mixB (comsP (emakeL ks q s ch tp)) = true := by
  unfold mixB
  rw [List.all_eq_true]
  intro x hx
  unfold comsP at hx
  rw [List.mem_map] at hx
  obtain ⟨p, hp, rfl⟩ := hx
  rw [decide_eq_true_eq]
  unfold emakeL at hp
  rcases List.mem_or_eq_of_mem_set hp with hp | rfl
  · rw [List.mem_map] at hp
    obtain ⟨j, _, rfl⟩ := hp
    exact backI_bd _ _ _ _
  · exact powI_bd4 _
theorem rs_no {ks : List Int} {i s : Int} {msg tp : List Int} (h : rsignB ks i s msg tp = false) : Hid (false = R_RingSign_1 ks i s msg tp ∧ R_RingSign_0 ks i s msg tp = []) := Lib.hid ⟨h.symm, by unfold R_RingSign_0; rw [h]; rfl⟩
theorem rs_yes {ks : List Int} {i s : Int} {msg tp : List Int} (h : rsignB ks i s msg tp = true) : Hid (true = R_RingSign_1 ks i s msg tp ∧ R_RingSign_0 ks i s msg tp = emakeL ks i.toNat s (rchal ks msg (emakeL ks i.toNat s 0 tp)) tp) := Lib.hid ⟨h.symm, by unfold R_RingSign_0; rw [if_pos h]⟩
theorem rs_chal {ks : List Int} {i s : Int} {msg tp : List Int} (h : rsignB ks i s msg tp = true) : Hid (mixB (msg ++ ks ++ comsP (emakeL ks i.toNat s 0 tp)) = true) := Lib.hid (by
  unfold rsignB emakeB at h
  simp only [Bool.and_eq_true] at h
  obtain ⟨⟨hk, _⟩, hm⟩ := h
  have h1 : mixB msg = true := mixB_nums (by simp only [msgB, Bool.and_eq_true] at hm; exact hm.2)
  have h2 : mixB ks = true := mixB_els (by simp only [keysB, Bool.and_eq_true] at hk; exact hk.2)
  rw [mixB_append, mixB_append, h1, h2, mixB_make]; rfl)
theorem rs_emake {ks : List Int} {i s : Int} {msg tp : List Int} (h : rsignB ks i s msg tp = true) : Hid (R_EitherMake_1 ks i s (rchal ks msg (emakeL ks i.toNat s 0 tp)) tp = true ∧ R_EitherMake_0 ks i s (rchal ks msg (emakeL ks i.toNat s 0 tp)) tp = emakeL ks i.toNat s (rchal ks msg (emakeL ks i.toNat s 0 tp)) tp) := by
  have hb : emakeB ks i s (rchal ks msg (emakeL ks i.toNat s 0 tp)) tp = true := by
    unfold rsignB emakeB at h
    unfold emakeB
    simp only [Bool.and_eq_true] at h ⊢
    exact ⟨h.1.1, h.1.2.1, (numB_iff _).2 (rchal_bd _ _ _), h.1.2.2.2⟩
  exact Lib.hid ⟨hb, by unfold R_EitherMake_0; rw [if_pos hb]⟩

set_option maxHeartbeats 4000000 in
theorem X_i_RingSign (v v1 v2 : Value) (ks : List Int) (i s : Int) (msg tp : List Int) (w : World) (h : RdIntS w w.heap.size v ks) (h1 : RdIntS w w.heap.size v1 msg) (h2 : RdIntS w w.heap.size v2 tp) (hs : szIntS ks ≤ 1048576) (hs1 : szIntS msg ≤ 1048576) (hs2 : szIntS tp ≤ 1048576) :
    Calls Try.prog 19 #[v, .int .i64 i, .int .i64 s, v1, v2] w fun e w' => ∃ g, e = .returned (.tuple #[g, .bool (R_RingSign_1 ks i s msg tp)]) ∧ OwProofS w' w.heap.size w'.heap.size g (R_RingSign_0 ks i s msg tp) ∧ Below w.heap.size w w' := by
  have HM : ∀ (W : World) (ch : Int), Hid (Below w.heap.size w W → Calls Try.prog 12 #[v, .int .i64 i, .int .i64 s, .int .i64 ch, v2] W fun e w' => ∃ g, e = .returned (.tuple #[g, .bool (R_EitherMake_1 ks i s ch tp)]) ∧ OwProofS w' W.heap.size w'.heap.size g (R_EitherMake_0 ks i s ch tp) ∧ Below W.heap.size W w') := fun W ch => Lib.hid fun hb => X_i_EitherMake v v2 ks i s ch tp W ((h.below hb).more hb.size) ((h2.below hb).more hb.size) hs hs2
  obtain ⟨A, n, c, rfl, _, h⟩ := h
  obtain ⟨A1, n1, c1, rfl, _, h1⟩ := h1
  obtain ⟨A2, n2, c2, rfl, _, h2⟩ := h2
  have HL := Lib.hid h.len
  have HL1 := Lib.hid h1.len
  have hn : n ≤ 1048576 := by have := HL.out; unfold szIntS at hs; omega
  have hn1 : n1 ≤ 1048576 := by have := HL1.out; unfold szIntS at hs1; omega
  have H := Lib.hid h
  have H1 := Lib.hid h1
  clear h h1 h2 hs hs1 hs2
  have HM0 := Lib.hid ((HM w 0).out (Below.refl _ _))
  cases he : emakeB ks i s 0 tp
  · have HF := rs_no (ks := ks) (i := i) (s := s) (msg := msg) (tp := tp) (by unfold rsignB; rw [he]; rfl)
    have HE : Hid (R_EitherMake_1 ks i s 0 tp = false) := Lib.hid he
    rw [HE.out] at HM0
    clear he HE HM
    go_enter Try.func19, Try.ntmps19
    go_wp2_with fail
    refine HM0.out.mono ?_
    rintro e w1 ⟨g, rfl, ho, hb⟩
    have HB1 := Lib.hid hb
    clear ho hb
    go_wp2
    go_ret2
    exact ⟨_, ret_vb5 HF.out.1, by rw [HF.out.2]; exact OwProofS.nil5 _ _ _, HB1.out⟩
  have HE : Hid (R_EitherMake_1 ks i s 0 tp = true ∧ R_EitherMake_0 ks i s 0 tp = emakeL ks i.toNat s 0 tp) := Lib.hid ⟨he, by unfold R_EitherMake_0; rw [if_pos he]⟩
  have HK6 : Hid (ks.length ≤ 6) := Lib.hid (by
    have hk : keysB ks = true := by unfold emakeB at he; simp only [Bool.and_eq_true] at he; exact he.1
    exact (keysB_len hk).2)
  rw [HE.out.1, HE.out.2] at HM0
  have HEB := Lib.hid he
  clear he HE
  go_enter Try.func19, Try.ntmps19
  go_wp2_with fail
  refine HM0.out.mono ?_
  rintro e w1 ⟨g, rfl, ho, hb⟩
  obtain ⟨_, A3, n3, c3, rfl, ow⟩ := ho
  have HOW := Lib.hid ow
  have HB1 := Lib.hid hb
  have z1 := HB1.out.size
  have hn3 : n3 ≤ 1048576 := by have := HOW.out.Prooflen; rw [emakeL_length] at this; have := HK6.out; omega
  clear hb ow HM0
  go_wp2_with fail
  refine (i_messageOk A1 n1 c1 msg w1 ((H1.out.below HB1.out).more z1) hn1).mono ?_
  rintro e w' ⟨rfl, rfl⟩
  cases hm : msgB msg
  · have HF := rs_no (ks := ks) (i := i) (s := s) (msg := msg) (tp := tp) (by unfold rsignB; rw [hm]; simp)
    clear hm HM
    go_wp2
    go_ret2
    exact ⟨_, ret_vb5 HF.out.1, by rw [HF.out.2]; exact OwProofS.nil5 _ _ _, HB1.out⟩
  have HRS : Hid (rsignB ks i s msg tp = true) := Lib.hid (by unfold rsignB; rw [HEB.out, hm]; rfl)
  have HF := rs_yes HRS.out
  have HMX := rs_chal HRS.out
  have HEM := rs_emake HRS.out
  clear hm HEB HRS
  go_wp2_with fail
  refine (i_ringSigning A n c ks A1 n1 c1 msg A3 n3 c3 (emakeL ks i.toNat s 0 tp) w1 ((H.out.below HB1.out).more z1) ((H1.out.below HB1.out).more z1) HOW.out.rd hn hn1 hn3).mono ?_
  rintro e w2 ⟨Ar, cr, rfl, hr, hb⟩
  have HR := Lib.hid hr
  have HB2 : Hid (Below w.heap.size w w2) := Lib.hid (HB1.out.trans (hb.mono z1))
  have HM2 := Lib.hid ((HM w2 (rchal ks msg (emakeL ks i.toNat s 0 tp))).out HB2.out)
  rw [HEM.out.1, HEM.out.2] at HM2
  have HMV : Hid (mixV (msg ++ ks ++ comsP (emakeL ks i.toNat s 0 tp)) = rchal ks msg (emakeL ks i.toNat s 0 tp)) := Lib.hid (by unfold mixV rchal; rw [if_pos HMX.out])
  clear hr hb HM HEM HMX
  go_wp2_with fail
  rw [field_sigP]
  go_wp2_with fail
  refine (i_mixChal Ar (n1 + n + n3) cr _ w2 HR.out (by omega)).mono ?_
  rintro e w' ⟨rfl, rfl⟩
  rw [HMV.out]
  clear HR HMV
  go_wp2_with fail
  refine HM2.out.mono ?_
  rintro e w3 ⟨g, rfl, ho, hb⟩
  have HB3 : Hid (Below w.heap.size w w3) := Lib.hid (HB2.out.trans (hb.mono HB2.out.size))
  have HO3 : Hid (OwProofS w3 w.heap.size w3.heap.size g (R_RingSign_0 ks i s msg tp)) := Lib.hid (by rw [HF.out.2]; exact ⟨ho.1, by obtain ⟨_, A4, n4, c4, e4, o4⟩ := ho; exact ⟨A4, n4, c4, e4, o4.widen HB2.out.size (Nat.le_refl _)⟩⟩)
  obtain ⟨_, A4, n4, c4, rfl, _⟩ := ho
  clear hb HM2
  go_wp2
  go_ret2
  exact ⟨_, ret_vb5 HF.out.1, HO3.out, HB3.out⟩

set_option maxHeartbeats 4000000 in
theorem X_s_RingSign (v v1 v2 : Value) (ks : List Int) (i s : Int) (msg tp : List Int) (w : World) (h : RdIntS w w.heap.size v ks) (h1 : RdIntS w w.heap.size v1 msg) (h2 : RdIntS w w.heap.size v2 tp) (hs : szIntS ks ≤ 1048576) (hs1 : szIntS msg ≤ 1048576) (hs2 : szIntS tp ≤ 1048576) :
    Calls Try.prog 18 #[v, .int .i64 i, .int .i64 s, v1, v2] w fun e w' => ∃ g, e = .returned (.tuple #[g, .bool (R_RingSign_1 ks i s msg tp)]) ∧ OwProofS w' w.heap.size w'.heap.size g (R_RingSign_0 ks i s msg tp) ∧ Below w.heap.size w w' := by
  have HM : ∀ (W : World) (ch : Int), Hid (Below w.heap.size w W → Calls Try.prog 10 #[v, .int .i64 i, .int .i64 s, .int .i64 ch, v2] W fun e w' => ∃ g, e = .returned (.tuple #[g, .bool (R_EitherMake_1 ks i s ch tp)]) ∧ OwProofS w' W.heap.size w'.heap.size g (R_EitherMake_0 ks i s ch tp) ∧ Below W.heap.size W w') := fun W ch => Lib.hid fun hb => X_s_EitherMake v v2 ks i s ch tp W ((h.below hb).more hb.size) ((h2.below hb).more hb.size) hs hs2
  obtain ⟨A, n, c, rfl, _, h⟩ := h
  obtain ⟨A1, n1, c1, rfl, _, h1⟩ := h1
  obtain ⟨A2, n2, c2, rfl, _, h2⟩ := h2
  have HL := Lib.hid h.len
  have HL1 := Lib.hid h1.len
  have hn : n ≤ 1048576 := by have := HL.out; unfold szIntS at hs; omega
  have hn1 : n1 ≤ 1048576 := by have := HL1.out; unfold szIntS at hs1; omega
  have H := Lib.hid h
  have H1 := Lib.hid h1
  clear h h1 h2 hs hs1 hs2
  have HM0 := Lib.hid ((HM w 0).out (Below.refl _ _))
  cases he : emakeB ks i s 0 tp
  · have HF := rs_no (ks := ks) (i := i) (s := s) (msg := msg) (tp := tp) (by unfold rsignB; rw [he]; rfl)
    have HE : Hid (R_EitherMake_1 ks i s 0 tp = false) := Lib.hid he
    rw [HE.out] at HM0
    clear he HE HM
    go_enter Try.func18, Try.ntmps18
    go_wp2_with fail
    refine HM0.out.mono ?_
    rintro e w1 ⟨g, rfl, ho, hb⟩
    have HB1 := Lib.hid hb
    clear ho hb
    go_wp2
    go_ret2
    exact ⟨_, ret_vb5 HF.out.1, by rw [HF.out.2]; exact OwProofS.nil5 _ _ _, HB1.out⟩
  have HE : Hid (R_EitherMake_1 ks i s 0 tp = true ∧ R_EitherMake_0 ks i s 0 tp = emakeL ks i.toNat s 0 tp) := Lib.hid ⟨he, by unfold R_EitherMake_0; rw [if_pos he]⟩
  have HK6 : Hid (ks.length ≤ 6) := Lib.hid (by
    have hk : keysB ks = true := by unfold emakeB at he; simp only [Bool.and_eq_true] at he; exact he.1
    exact (keysB_len hk).2)
  rw [HE.out.1, HE.out.2] at HM0
  have HEB := Lib.hid he
  clear he HE
  go_enter Try.func18, Try.ntmps18
  go_wp2_with fail
  refine HM0.out.mono ?_
  rintro e w1 ⟨g, rfl, ho, hb⟩
  obtain ⟨_, A3, n3, c3, rfl, ow⟩ := ho
  have HOW := Lib.hid ow
  have HB1 := Lib.hid hb
  have z1 := HB1.out.size
  have hn3 : n3 ≤ 1048576 := by have := HOW.out.Prooflen; rw [emakeL_length] at this; have := HK6.out; omega
  clear hb ow HM0
  go_wp2_with fail
  refine (s_l16Message A1 n1 c1 msg w1 ((H1.out.below HB1.out).more z1) hn1).mono ?_
  rintro e w' ⟨rfl, rfl⟩
  cases hm : msgB msg
  · have HF := rs_no (ks := ks) (i := i) (s := s) (msg := msg) (tp := tp) (by unfold rsignB; rw [hm]; simp)
    clear hm HM
    go_wp2
    go_ret2
    exact ⟨_, ret_vb5 HF.out.1, by rw [HF.out.2]; exact OwProofS.nil5 _ _ _, HB1.out⟩
  have HRS : Hid (rsignB ks i s msg tp = true) := Lib.hid (by unfold rsignB; rw [HEB.out, hm]; rfl)
  have HF := rs_yes HRS.out
  have HMX := rs_chal HRS.out
  have HEM := rs_emake HRS.out
  clear hm HEB HRS
  go_wp2_with fail
  refine (s_l16Chal A1 n1 c1 msg A n c ks A3 n3 c3 (emakeL ks i.toNat s 0 tp) w1 ((H.out.below HB1.out).more z1) ((H1.out.below HB1.out).more z1) HOW.out.rd hn hn1 hn3).mono ?_
  rintro e w2 ⟨ch, rfl, hch, hb⟩
  have HB2 : Hid (Below w.heap.size w w2) := Lib.hid (HB1.out.trans (hb.mono z1))
  have HM2 := Lib.hid ((HM w2 (rchal ks msg (emakeL ks i.toNat s 0 tp))).out HB2.out)
  rw [HEM.out.1, HEM.out.2] at HM2
  obtain rfl := hch.out HMX.out
  clear hch hb HM HEM HMX
  go_wp2_with fail
  refine HM2.out.mono ?_
  rintro e w3 ⟨g, rfl, ho, hb⟩
  have HB3 : Hid (Below w.heap.size w w3) := Lib.hid (HB2.out.trans (hb.mono HB2.out.size))
  have HO3 : Hid (OwProofS w3 w.heap.size w3.heap.size g (R_RingSign_0 ks i s msg tp)) := Lib.hid (by rw [HF.out.2]; exact ⟨ho.1, by obtain ⟨_, A4, n4, c4, e4, o4⟩ := ho; exact ⟨A4, n4, c4, e4, o4.widen HB2.out.size (Nat.le_refl _)⟩⟩)
  obtain ⟨_, A4, n4, c4, rfl, _⟩ := ho
  clear hb HM2
  go_wp2
  go_ret2
  exact ⟨_, ret_vb5 HF.out.1, HO3.out, HB3.out⟩
end Go.Proofs.Ytdhakbpimbadgaa

/- P97: a signature of RingSign is good. Made by tools/plain/p19.py. -/
namespace Go.Proofs.Ytdhakbpimbadgaa
open Go.RowKit
set_option maxRecDepth 100000

theorem rgood_make {ks : List Int} {i s : Int} {msg tp : List Int} (h : rsignB ks i s msg tp = true) : rgoodB ks msg (emakeL ks i.toNat s (rchal ks msg (emakeL ks i.toNat s 0 tp)) tp) = true := by
  have hb : emakeB ks i s (rchal ks msg (emakeL ks i.toNat s 0 tp)) tp = true := (rs_emake h).out.1
  have hg := egood_make hb
  have hm : msgB msg = true := by unfold rsignB at h; simp only [Bool.and_eq_true] at h; exact h.2
  have hc : rchal ks msg (emakeL ks i.toNat s (rchal ks msg (emakeL ks i.toNat s 0 tp)) tp) = rchal ks msg (emakeL ks i.toNat s 0 tp) := by
    unfold rchal; rw [coms_make ks i.toNat s _ 0 tp]
  unfold rgoodB
  rw [hc, hg, hm]; rfl
set_option maxHeartbeats 2000000 in
theorem d_l92Ring (g hi p : Nat) (A : Option Addr) (n c : Nat) (bs : List Int) (w : World) (h : Rdr w g hi p A n c bs) (hp : p < 890000) :
    Calls Try.prog 75 #[.pointer (some ⟨g, 0, none⟩)] w fun e w' => ∃ v d i s v1 m v2 t, e = .returned (.tuple #[v, .int .i64 i, .int .i64 s, v1, v2]) ∧ OwIntS w' w.heap.size w'.heap.size v d ∧ OwIntS w' w.heap.size w'.heap.size v1 m ∧ OwIntS w' w.heap.size w'.heap.size v2 t ∧ Kept g (g + 1) w w' := by
  have hgw : g < w.heap.size := h.lt
  have HR := Lib.hid h
  clear h
  go_enter Try.func75, Try.ntmps75
  go_wp2_with fail
  refine (d_l92Keys _ _ _ _ _ _ _ _ HR.out (by omega)).mono ?_
  rintro e w1 ⟨v, d, i, s, q1, rfl, ho, hd, hq1, h2, k2⟩
  have HOk := Lib.hid ho
  have HRn := Lib.hid h2
  have HK := Lib.hid k2
  have z1 := k2.size
  clear ho h2 k2 HR
  obtain ⟨Av, nv, cv, hvv⟩ : ∃ A n c, v = .slice A n c := by obtain ⟨_, A, n, c, rfl, _⟩ := HOk.out; exact ⟨_, _, _, rfl⟩
  subst hvv
  have hnv : Hid (nv = d.length) := Lib.hid (by obtain ⟨_, A1, n1, c1, e, r⟩ := HOk.out; injection e with e1 e2 e3; subst e2; exact r.len.symm)
  have hnv4 : nv ≤ 4 := by have := hnv.out; omega
  clear hnv hd
  go_wp2_with fail
  refine (d_pick _ _ _ _ _ _ _ _ _ HRn.out (by omega) (by omega) (by omega)).mono ?_
  rintro e w2 ⟨x, rfl, x0, x1, h2, k2⟩
  have z2 := k2.size
  replace HOk := Lib.hid ((HOk.out.kept k2 (by omega) (.inl (by omega))).widen (Nat.le_refl _) k2.size)
  have HRn := Lib.hid h2
  replace HK := Lib.hid (HK.out.trans k2)
  clear h2 k2
  go_wp2_with fail
  refine (d_l91NumsL _ _ _ _ _ _ _ x _ HRn.out (by omega) (by omega) (by omega)).mono ?_
  rintro e w3 ⟨v3, d3, q3, rfl, ho3, hd3, hq3, h2, k2⟩
  have z3 := k2.size
  have HOm : Hid (OwIntS w3 w.heap.size w3.heap.size v3 d3) := Lib.hid (ho3.widen (by omega) (Nat.le_refl _))
  replace HOk := Lib.hid ((HOk.out.kept k2 (by omega) (.inl (by omega))).widen (Nat.le_refl _) k2.size)
  have HRn := Lib.hid h2
  replace HK := Lib.hid (HK.out.trans k2)
  obtain ⟨_, A3, n3, c3, rfl, _⟩ := ho3
  clear h2 k2 hd3
  have iw : IntKind.i64.wrap (2 * (nv : Int)) = 2 * (nv : Int) := IntWalk.i64_in _ (by omega)
  go_wp2_with fail
  refine (d_l91NumsL _ _ _ _ _ _ _ (2 * (nv : Int)) _ HRn.out (by omega) (by omega) (by omega)).mono ?_
  rintro e w4 ⟨v4, d4, q4, rfl, ho4, hd4, hq4, h2, k2⟩
  have z4 := k2.size
  have HOt : Hid (OwIntS w4 w.heap.size w4.heap.size v4 d4) := Lib.hid (ho4.widen (by omega) (Nat.le_refl _))
  replace HOk := Lib.hid ((HOk.out.kept k2 (by omega) (.inl (by omega))).widen (Nat.le_refl _) k2.size)
  replace HOm := Lib.hid ((HOm.out.kept k2 (by omega) (.inl (by omega))).widen (Nat.le_refl _) k2.size)
  replace HK := Lib.hid (HK.out.trans k2)
  obtain ⟨_, A4, n4, c4, rfl, _⟩ := ho4
  clear h2 k2 hd4
  go_wp2
  refine bodyPost_ret (results_five rfl _ _ _) rfl ?_
  exact ⟨_, _, _, _, _, _, _, _, rfl, HOk.out, HOm.out, HOt.out, HK.out⟩
set_option maxHeartbeats 2000000 in
theorem d_DrawRingSign (A : Option Addr) (n c : Nat) (bs : List Int) (w : World) (h : Rd w w.heap.size 1 A n (cU bs)) (hb : Byt bs) (hn : n ≤ 1048576) (hc : n ≤ c) :
    Calls Try.prog 30 #[.slice A n c] w fun e w' => ∃ v d i s v1 m v2 t, e = .returned (.tuple #[v, .int .i64 i, .int .i64 s, v1, v2]) ∧ OwIntS w' w.heap.size w'.heap.size v d ∧ OwIntS w' w.heap.size w'.heap.size v1 m ∧ OwIntS w' w.heap.size w'.heap.size v2 t ∧ Below w.heap.size w w' := by
  have H := Lib.hid h
  clear h
  go_enter Try.func30, Try.ntmps30
  go_wp2_with fail
  refine (d_l6Open _ _ _ _ _ H.out hb hn hc).mono ?_
  rintro e w1 ⟨rfl, ⟨A', n', c', bs', h1⟩, hb1⟩
  have H1 := Lib.hid h1
  have B1 := Lib.hid hb1
  have hz1 := hb1.size
  clear h1 hb1
  go_wp2_with fail
  refine (d_l92Ring _ _ _ _ _ _ _ _ H1.out (by omega)).mono ?_
  rintro e w2 ⟨v, d, i, s, v1, m, v2, t, rfl, ho, ho1, ho2, k2⟩
  have B2 : Hid (Below w.heap.size w w2) := Lib.hid (B1.out.trans (k2.to_below B1.out.size))
  have HO := Lib.hid (ho.widen B1.out.size (Nat.le_refl _))
  have HO1 := Lib.hid (ho1.widen B1.out.size (Nat.le_refl _))
  have HO2 := Lib.hid (ho2.widen B1.out.size (Nat.le_refl _))
  clear ho ho1 ho2 k2
  go_wp2
  refine bodyPost_ret (results_five rfl _ _ _) rfl ?_
  exact ⟨_, _, _, _, _, _, _, _, rfl, HO.out, HO1.out, HO2.out, B2.out⟩

set_option maxHeartbeats 4000000 in
theorem P97_walk (A : Option Addr) (n c : Nat) (bs : List Int) (w : World) (h : Rd w w.heap.size 1 A n (cU bs)) (hby : Byt bs) (hc : n ≤ c) (hm : n ≤ 9223372036854775807) :
    Calls Try.prog 8 #[.slice A n c] w fun e w' => e = .returned (.bool true) ∧ Below w.heap.size w w' := by
  by_cases hn : n ≤ 1048576
  · have h3 : ¬ ((1048576 : Int) < (n : Int)) := by omega
    have H := Lib.hid h
    clear h
    go_enter Try.func8, Try.ntmps8
    go_wp2_with fail
    refine (d_DrawRingSign _ _ _ _ _ H.out hby hn hc).mono ?_
    rintro e w1 ⟨v, d, i, s, v1, m, v2, t, rfl, h_k, h_m, h_t, hb⟩
    have z1 : w.heap.size ≤ w1.heap.size := hb.size
    have HB := Lib.hid hb
    have HO_k := Lib.hid h_k
    have HO_m := Lib.hid h_m
    have HO_t := Lib.hid h_t
    clear hb h_k h_m h_t H
    cases hG : rsignB d i s m t
    · have HE : Hid (R_RingSign_1 d i s m t = false ∧ R_RingSign_0 d i s m t = []) := Lib.hid ⟨hG, by unfold R_RingSign_0; rw [hG]; rfl⟩
      clear hG
      have HM := Lib.hid (X_i_RingSign _ _ _ d i s m t w1 (HO_k.out.rd.more (by omega)) (HO_m.out.rd.more (by omega)) (HO_t.out.rd.more (by omega)) HO_k.out.small HO_m.out.small HO_t.out.small)
      rw [HE.out.1, HE.out.2] at HM
      go_wp2_with fail
      refine HM.out.mono ?_
      rintro e w2 ⟨g_x, rfl, ho, hb⟩
      have zw2 : w1.heap.size ≤ w2.heap.size := hb.size
      replace HO_k := Lib.hid (HO_k.out.below hb (by omega))
      replace HO_m := Lib.hid (HO_m.out.below hb (by omega))
      replace HO_t := Lib.hid (HO_t.out.below hb (by omega))
      replace HB := Lib.hid (HB.out.trans (hb.mono (by omega)))
      have HO_x : Hid (OwProofS w2 w.heap.size w2.heap.size g_x ([])) := Lib.hid (ho.widen (by omega) (Nat.le_refl _))
      obtain ⟨_, A_x, n_x, c_x, rfl, _⟩ := ho
      clear hb HM
      have HM := Lib.hid (X_s_RingSign _ _ _ d i s m t w2 (HO_k.out.rd.more (by omega)) (HO_m.out.rd.more (by omega)) (HO_t.out.rd.more (by omega)) HO_k.out.small HO_m.out.small HO_t.out.small)
      rw [HE.out.1, HE.out.2] at HM
      go_wp2_with fail
      refine HM.out.mono ?_
      rintro e w3 ⟨g_y, rfl, ho, hb⟩
      have zw3 : w2.heap.size ≤ w3.heap.size := hb.size
      replace HO_k := Lib.hid (HO_k.out.below hb (by omega))
      replace HO_m := Lib.hid (HO_m.out.below hb (by omega))
      replace HO_t := Lib.hid (HO_t.out.below hb (by omega))
      replace HO_x := Lib.hid (HO_x.out.below hb (by omega))
      replace HB := Lib.hid (HB.out.trans (hb.mono (by omega)))
      have HO_y : Hid (OwProofS w3 w.heap.size w3.heap.size g_y ([])) := Lib.hid (ho.widen (by omega) (Nat.le_refl _))
      obtain ⟨_, A_y, n_y, c_y, rfl, _⟩ := ho
      clear hb HM
      go_wp2_with fail
      refine (U_uvProofs _ _ _ _ _ _ HO_x.out.rd HO_y.out.rd (by omega) (by omega) HO_x.out.small).mono ?_
      rintro e w4 ⟨rfl, hb⟩
      have z4 : w3.heap.size ≤ w4.heap.size := hb.size
      replace HO_k := Lib.hid (HO_k.out.below hb (by omega))
      replace HO_m := Lib.hid (HO_m.out.below hb (by omega))
      replace HO_t := Lib.hid (HO_t.out.below hb (by omega))
      replace HO_x := Lib.hid (HO_x.out.below hb (by omega))
      replace HB := Lib.hid (HB.out.trans (hb.mono (by omega)))
      clear hb
      go_wp2
      go_ret
      exact ⟨rfl, HB.out⟩
    · have HE : Hid (R_RingSign_1 d i s m t = true ∧ R_RingSign_0 d i s m t = emakeL d i.toNat s (rchal d m (emakeL d i.toNat s 0 t)) t) := Lib.hid ⟨hG, by unfold R_RingSign_0; rw [if_pos hG]⟩
      have HGD := Lib.hid (rgood_make hG)
      clear hG
      have HM := Lib.hid (X_i_RingSign _ _ _ d i s m t w1 (HO_k.out.rd.more (by omega)) (HO_m.out.rd.more (by omega)) (HO_t.out.rd.more (by omega)) HO_k.out.small HO_m.out.small HO_t.out.small)
      rw [HE.out.1, HE.out.2] at HM
      go_wp2_with fail
      refine HM.out.mono ?_
      rintro e w2 ⟨g_x, rfl, ho, hb⟩
      have zw2 : w1.heap.size ≤ w2.heap.size := hb.size
      replace HO_k := Lib.hid (HO_k.out.below hb (by omega))
      replace HO_m := Lib.hid (HO_m.out.below hb (by omega))
      replace HO_t := Lib.hid (HO_t.out.below hb (by omega))
      replace HB := Lib.hid (HB.out.trans (hb.mono (by omega)))
      have HO_x : Hid (OwProofS w2 w.heap.size w2.heap.size g_x (emakeL d i.toNat s (rchal d m (emakeL d i.toNat s 0 t)) t)) := Lib.hid (ho.widen (by omega) (Nat.le_refl _))
      obtain ⟨_, A_x, n_x, c_x, rfl, _⟩ := ho
      clear hb HM
      have HM := Lib.hid (X_s_RingSign _ _ _ d i s m t w2 (HO_k.out.rd.more (by omega)) (HO_m.out.rd.more (by omega)) (HO_t.out.rd.more (by omega)) HO_k.out.small HO_m.out.small HO_t.out.small)
      rw [HE.out.1, HE.out.2] at HM
      go_wp2_with fail
      refine HM.out.mono ?_
      rintro e w3 ⟨g_y, rfl, ho, hb⟩
      have zw3 : w2.heap.size ≤ w3.heap.size := hb.size
      replace HO_k := Lib.hid (HO_k.out.below hb (by omega))
      replace HO_m := Lib.hid (HO_m.out.below hb (by omega))
      replace HO_t := Lib.hid (HO_t.out.below hb (by omega))
      replace HO_x := Lib.hid (HO_x.out.below hb (by omega))
      replace HB := Lib.hid (HB.out.trans (hb.mono (by omega)))
      have HO_y : Hid (OwProofS w3 w.heap.size w3.heap.size g_y (emakeL d i.toNat s (rchal d m (emakeL d i.toNat s 0 t)) t)) := Lib.hid (ho.widen (by omega) (Nat.le_refl _))
      obtain ⟨_, A_y, n_y, c_y, rfl, _⟩ := ho
      clear hb HM
      go_wp2_with fail
      refine (U_uvProofs _ _ _ _ _ _ HO_x.out.rd HO_y.out.rd (by omega) (by omega) HO_x.out.small).mono ?_
      rintro e w4 ⟨rfl, hb⟩
      have z4 : w3.heap.size ≤ w4.heap.size := hb.size
      replace HO_k := Lib.hid (HO_k.out.below hb (by omega))
      replace HO_m := Lib.hid (HO_m.out.below hb (by omega))
      replace HO_t := Lib.hid (HO_t.out.below hb (by omega))
      replace HO_x := Lib.hid (HO_x.out.below hb (by omega))
      replace HB := Lib.hid (HB.out.trans (hb.mono (by omega)))
      clear hb
      go_wp2_with fail
      refine (X_i_RingGood _ _ _ d m _ _ (HO_k.out.rd.more (by omega)) (HO_m.out.rd.more (by omega)) (HO_x.out.rd.more (by omega)) HO_k.out.small HO_m.out.small HO_x.out.small).mono ?_
      rintro e w5 ⟨rfl, hb⟩
      replace HB := Lib.hid (HB.out.trans (hb.mono (by omega)))
      rw [HGD.out]
      clear hb
      go_wp2
      go_ret
      exact ⟨rfl, HB.out⟩
  · have h3 : (1048576 : Int) < (n : Int) := by omega
    go_enter Try.func8, Try.ntmps8
    go_wp2
    go_ret
    exact ⟨rfl, Below.refl _ _⟩
end Go.Proofs.Ytdhakbpimbadgaa

/- An argument of type []byte, opened. -/
namespace Go.Proofs.Ytdhakbpimbadgaa
open Go.RowKit
set_option maxRecDepth 100000

section
open Go.ChangeShapes Go.WideShapes Go.ChangeAt Go.RowKit
/-- an argument of type []byte: a list of bytes that reads -/
theorem open_byteS {H : Type} {enc : TypeId × Value → H} {P : Program} {w : World} {b0 : Nat} {t e : TypeId} {r : Reach} {v : Value} {d : DataW H} {ps : List MemPlace} (ht : P.underlying t = some (.slice e)) (he : P.underlying e = some (.int .u8)) (hc : P.cellsOf e = 1)
    (hv : Value.okWide P w r b0 t v) (h : DataW.Trod enc P w 0 (fun _ => true) true t v d ps) :
    ∃ A n c zs, v = .slice A n c ∧ n ≤ 9223372036854775807 ∧ n ≤ c ∧ Rd w w.heap.size 1 A n (cU zs) ∧ Byt zs := by
  obtain ⟨A, n, c, rfl⟩ : ∃ A n c, v = .slice A n c := by
    cases v <;> simp [Value.okWide, ht, Cell.okWide, Cell.ok] at hv
    exact ⟨_, _, _, rfl⟩
  obtain ⟨fuel, hf⟩ := h
  rcases open_ints ht he hc hf with ⟨hn, _⟩ | ⟨a, len, cap, zs, hs, _, hlc, hm, hlen, _, hcell, hwz⟩
  · simp [Value.cells] at hn
    obtain ⟨rfl, rfl, rfl⟩ := hn
    exact ⟨_, _, _, [], rfl, by omega, Nat.le_refl _, ⟨by simp [cU], fun h => by omega⟩, fun j => by simp⟩
  · simp [Value.cells] at hs
    obtain ⟨rfl, rfl, rfl⟩ := hs
    simp only [if_true] at hlen
    unfold maxLen at hm
    have hby : Byt zs := fun j => by
      by_cases hj : j < zs.length
      · have hw := hwz zs[j] (List.getElem_mem hj)
        simp only [Lit.wf, IntKind.min, IntKind.max, IntKind.signed, IntKind.bits, Bool.and_eq_true] at hw
        simp [hj]
        simp at hw
        omega
      · simp [List.getElem?_eq_none (show zs.length ≤ j by omega)]
    refine ⟨_, _, _, zs.take n, rfl, by omega, by omega, ⟨by rw [cU_length, List.length_take]; omega, fun hn => ⟨a, rfl, ?_, fun j u hu => ?_⟩⟩, hby.take _⟩
    · have := hcell 0 (by omega)
      exact World.block_lt_of_cell? (a := a.add 0) _ this
    · have hj : j < n := by
        have := (List.getElem?_eq_some_iff.1 hu).1
        rw [cU_length, List.length_take] at this; omega
      simp only [cU, List.map_take, List.getElem?_take, if_pos hj, List.getElem?_map, List.getElem?_eq_getElem (show j < zs.length by omega), Option.map_some, Option.some.injEq] at hu
      rw [← hu, hcell j (by omega)]
      simp [show j < zs.length by omega]
end
end Go.Proofs.Ytdhakbpimbadgaa
