/- Chapter 16: LinkTape of both sides. Made by tools/gen15/k.py. -/
import Derived.Test.YtalokhilodlhfaaWalk16j
namespace Go.Proofs.Ytalokhilodlhfaa
open Go.RowKit
set_option maxRecDepth 100000

theorem ltp_no {ks msg : List Int} {tag : Int} {l : List Tw} {i s : Int} (h : ltapeB ks msg tag l i s = false) : Hid (false = R_LinkTape_1 ks msg tag l i s ∧ R_LinkTape_0 ks msg tag l i s = []) := Lib.hid ⟨h.symm, by unfold R_LinkTape_0; rw [h]; rfl⟩
theorem ltp_yes {ks msg : List Int} {tag : Int} {l : List Tw} {i s : Int} (h : ltapeB ks msg tag l i s = true) : Hid (true = R_LinkTape_1 ks msg tag l i s ∧ R_LinkTape_0 ks msg tag l i s = ltapeL l i.toNat s ks.length) := Lib.hid ⟨h.symm, by unfold R_LinkTape_0; rw [if_pos h]⟩
theorem lgood_parts {ks msg : List Int} {tag : Int} {l : List Tw} (h : lgoodB ks msg tag l = true) : keysB ks = true ∧ l.length = ks.length ∧ lgoodsK ks tag l ks.length = true := by
  simp only [lgoodB, Bool.and_eq_true, decide_eq_true_eq] at h
  exact ⟨h.1, h.2.2.2.1, h.2.2.2.2.1⟩
def rawT (l : List Tw) (n : Nat) : List Int := (List.range n).flatMap fun j => [(l.getD j (0, 0, 0, 0)).2.2.1, (l.getD j (0, 0, 0, 0)).2.2.2]
theorem rawT_succ (l : List Tw) (n : Nat) : rawT l (n + 1) = rawT l n ++ [(l.getD n (0, 0, 0, 0)).2.2.1, (l.getD n (0, 0, 0, 0)).2.2.2] := by simp [rawT, List.range_succ]
theorem rawT_length (l : List Tw) (n : Nat) : (rawT l n).length = 2 * n := by
  induction n with
  | zero => rfl
  | succ n ih => rw [rawT_succ, List.length_append, ih]; simp; omega
theorem rawT_same (l : List Tw) (q : Nat) (s : Int) {n : Nat} (h : n ≤ q) : rawT l n = ltapeL l q s n := by
  induction n with
  | zero => rfl
  | succ n ih => rw [rawT_succ, ltapeL_succ, ih (by omega)]; unfold ltapeJ; rw [if_neg (by omega)]
theorem rawT_set (l : List Tw) (q : Nat) (s : Int) {n : Nat} (h : q < n) : ((rawT l n).set (2 * q) (((l.getD q (0, 0, 0, 0)).2.2.2 - (l.getD q (0, 0, 0, 0)).2.2.1 * s) % 113)).set (2 * q + 1) 0 = ltapeL l q s n := by
  induction n with
  | zero => omega
  | succ n ih =>
    have hl := rawT_length l n
    rw [rawT_succ, ltapeL_succ]
    by_cases e : q = n
    · subst e
      rw [List.set_append_right _ _ (by omega), hl, Nat.sub_self, List.set_cons_zero, List.set_append_right _ _ (by omega), hl, show 2 * q + 1 - 2 * q = 0 + 1 by omega, List.set_cons_succ, List.set_cons_zero, rawT_same l q s (Nat.le_refl _)]
      unfold ltapeJ; rw [if_pos rfl]
      congr 2; omega
    · rw [List.set_append_left _ _ (by omega), List.set_append_left _ _ (by rw [List.length_set]; omega), ih (by omega)]
      unfold ltapeJ; rw [if_neg (by omega)]
set_option maxHeartbeats 1000000 in
theorem i_tagOf (s : Int) (w : World) (s0 : 0 ≤ s) (s1 : s ≤ 112) :
    Calls Try.prog 85 #[.int .i64 s] w fun e w' => e = .returned (.int .i64 (powI 9 s 227)) ∧ w = w' := by
  obtain ⟨u, hu⟩ : ∃ u, Hid (powI 9 s 227 = u) := ⟨_, Lib.hid rfl⟩
  have HP : Hid (Calls Try.prog 109 #[.int .i64 9, .int .i64 s] w fun e w' => e = .returned (.int .i64 u) ∧ w = w') := Lib.hid (by rw [← hu.out]; exact i_el_power 9 s _ (by omega) (by omega) s0 s1)
  rw [hu.out]
  go_enter Try.func85, Try.ntmps85
  go_wp2_with fail
  refine HP.out.mono ?_
  rintro e w' ⟨rfl, rfl⟩
  go_wp2
  go_ret
  exact ⟨rfl, rfl⟩

set_option maxHeartbeats 8000000 in
theorem X_i_LinkTape (v v1 v2 : Value) (ks msg : List Int) (tag : Int) (l : List Tw) (i s : Int) (w : World) (h : RdIntS w w.heap.size v ks) (h1 : RdIntS w w.heap.size v1 msg) (h2 : RdTwinS w w.heap.size v2 l) (hs : szIntS ks ≤ 1048576) (hs1 : szIntS msg ≤ 1048576) (hs2 : szTwinS l ≤ 1048576) :
    Calls Try.prog 45 #[v, v1, .int .i64 tag, v2, .int .i64 i, .int .i64 s] w fun e w' => ∃ g, e = .returned (.tuple #[g, .bool (R_LinkTape_1 ks msg tag l i s)]) ∧ OwIntS w' w.heap.size w'.heap.size g (R_LinkTape_0 ks msg tag l i s) ∧ Below w.heap.size w w' := by
  have HLG : ∀ W, Hid (Below w.heap.size w W → Calls Try.prog 43 #[v, v1, .int .i64 tag, v2] W fun e w' => e = .returned (.bool (lgoodB ks msg tag l)) ∧ Below W.heap.size W w') := fun W => Lib.hid fun hb => X_i_LinkGood v v1 v2 ks msg tag l W ((h.below hb).more hb.size) ((h1.below hb).more hb.size) ((h2.below hb).more hb.size) hs hs1 hs2
  obtain ⟨A, n, c, rfl, _, h⟩ := h
  obtain ⟨A1, n1, c1, rfl, _, h1⟩ := h1
  obtain ⟨A2, n2, c2, rfl, _, h2⟩ := h2
  have HL := Lib.hid h.len
  have HL2 := Lib.hid h2.Twinlen
  have hn : n ≤ 1048576 := by have := HL.out; unfold szIntS at hs; omega
  have H := Lib.hid h
  have H2 := Lib.hid h2
  clear h h1 h2 hs hs1 hs2
  obtain ⟨W0, hW0⟩ : ∃ W, Hid (w.alloc (.cells #[.int .i64 i, .int .i64 s] 75) = W) := ⟨_, Lib.hid rfl⟩
  have HB0 : Hid (Below w.heap.size w W0) := Lib.hid (by rw [← hW0.out]; exact (Below.refl _ _).alloc (Nat.le_refl _) _)
  have HX0 : Hid (Bx W0 w.heap.size #[.int .i64 i, .int .i64 s] 75) := Lib.hid (by rw [← hW0.out]; exact Bx.new _ _ _)
  have z0 := HB0.out.size
  go_enter Try.func45, Try.ntmps45
  go_wp2_with fail
  rw [hW0.out]
  clear hW0
  refine ((HLG W0).out HB0.out).mono ?_
  rintro e w1 ⟨rfl, hb⟩
  have HB1 : Hid (Below w.heap.size w w1) := Lib.hid (HB0.out.trans (hb.mono z0))
  have HX1 := Lib.hid (HX0.out.below hb HX0.out.lt)
  have z1 := HB1.out.size
  clear hb HB0 HX0 z0 HLG
  cases hg : lgoodB ks msg tag l
  · have HF := ltp_no (ks := ks) (msg := msg) (tag := tag) (l := l) (i := i) (s := s) (by unfold ltapeB; rw [hg]; rfl)
    go_wp2
    go_ret2
    exact ⟨_, ret_vb5 HF.out.1, by rw [HF.out.2]; exact OwIntS.nil5 _ _ _, HB1.out⟩
  have HG := Lib.hid (lgood_parts hg)
  have f0 : w1.cell? ⟨w.heap.size, 0, none⟩ = some (.int .i64 i) := HX1.out.cell 0
  have f1 : w1.cell? ⟨w.heap.size, 1, none⟩ = some (.int .i64 s) := HX1.out.cell 1
  go_wp2_with fail
  clear f0 f1
  refine (i_known_ok A n c ks i s w1 ((H.out.below HB1.out).more z1) hn).mono ?_
  rintro e w2 ⟨rfl, hb⟩
  have HB2 : Hid (Below w.heap.size w w2) := Lib.hid (HB1.out.trans (hb.mono z1))
  have HX2 := Lib.hid (HX1.out.below hb HX1.out.lt)
  have z2 := HB2.out.size
  clear hb HB1 HX1 z1
  cases ho : ownB ks i s
  · have HF := ltp_no (ks := ks) (msg := msg) (tag := tag) (l := l) (i := i) (s := s) (by unfold ltapeB; rw [ho]; simp)
    go_wp2
    go_ret2
    exact ⟨_, ret_vb5 HF.out.1, by rw [HF.out.2]; exact OwIntS.nil5 _ _ _, HB2.out⟩
  have hlen := HG.out.2.1
  have hk6 := keysB_len HG.out.1
  have hown := ownB_at ho
  rw [HL.out] at hlen hk6
  rw [HL2.out] at hlen
  obtain rfl : n2 = n := hlen
  obtain ⟨⟨i0, i1⟩, ⟨s0, s1⟩, _⟩ := hown
  obtain ⟨q, rfl⟩ := Int.eq_ofNat_of_zero_le i0
  obtain ⟨u, hu⟩ : ∃ u, Hid (powI 9 s 227 = u) := ⟨_, Lib.hid rfl⟩
  have HTG : Hid (Calls Try.prog 85 #[.int .i64 s] w2 fun e w' => e = .returned (.int .i64 u) ∧ w2 = w') := Lib.hid (by rw [← hu.out]; exact i_tagOf s w2 s0 s1)
  have HGO := Lib.hid (And.intro hg ho)
  clear hg ho
  have f0 : w2.cell? ⟨w.heap.size, 0, none⟩ = some (.int .i64 q) := HX2.out.cell 0
  have f1 : w2.cell? ⟨w.heap.size, 1, none⟩ = some (.int .i64 s) := HX2.out.cell 1
  go_wp2_with fail
  refine HTG.out.mono ?_
  rintro e w' ⟨rfl, rfl⟩
  clear HTG
  by_cases hut : u = tag
  rotate_left
  · have e1 : (u != tag) = true := by rw [bne_iff_ne]; exact hut
    have HF := ltp_no (ks := ks) (msg := msg) (tag := tag) (l := l) (i := (q : Int)) (s := s) (by unfold ltapeB; rw [hu.out]; simp [hut])
    go_wp2
    go_ret2
    exact ⟨_, ret_vb5 HF.out.1, by rw [HF.out.2]; exact OwIntS.nil5 _ _ _, HB2.out⟩
  have HF := ltp_yes (ks := ks) (msg := msg) (tag := tag) (l := l) (i := (q : Int)) (s := s) (by unfold ltapeB; rw [HGO.out.1, HGO.out.2, hu.out, hut]; simp)
  rw [Int.toNat_natCast, HL.out] at HF
  have HGK : Hid (lgoodsK ks tag l n2 = true) := Lib.hid (by have := HG.out.2.2; rw [HL.out] at this; exact this)
  clear HGO HG hu
  subst hut
  go_wp2_with fail
  clear f0 f1
  refine (i_tapeOf_Twin q s A2 n2 c2 l w2 ((H2.out.below HB2.out).more z2) (by omega) s0 s1 (fun k hk => (twGood_nums (lgoodsK_at HGK.out hk)).2.2)).mono ?_
  rintro e w3 ⟨g, rfl, ho, hb⟩
  have HB3 : Hid (Below w.heap.size w w3) := Lib.hid (HB2.out.trans (hb.mono z2))
  have HO := Lib.hid (ho.widen z2 (Nat.le_refl _))
  clear hb ho
  go_wp2
  go_ret2
  exact ⟨_, ret_vb5 HF.out.1, by rw [HF.out.2]; exact HO.out, HB3.out⟩

set_option maxHeartbeats 8000000 in
theorem X_s_LinkTape (v v1 v2 : Value) (ks msg : List Int) (tag : Int) (l : List Tw) (i s : Int) (w : World) (h : RdIntS w w.heap.size v ks) (h1 : RdIntS w w.heap.size v1 msg) (h2 : RdTwinS w w.heap.size v2 l) (hs : szIntS ks ≤ 1048576) (hs1 : szIntS msg ≤ 1048576) (hs2 : szTwinS l ≤ 1048576) :
    Calls Try.prog 44 #[v, v1, .int .i64 tag, v2, .int .i64 i, .int .i64 s] w fun e w' => ∃ g, e = .returned (.tuple #[g, .bool (R_LinkTape_1 ks msg tag l i s)]) ∧ OwIntS w' w.heap.size w'.heap.size g (R_LinkTape_0 ks msg tag l i s) ∧ Below w.heap.size w w' := by
  have HLG : ∀ W, Hid (Below w.heap.size w W → Calls Try.prog 41 #[v, v1, .int .i64 tag, v2] W fun e w' => e = .returned (.bool (lgoodB ks msg tag l)) ∧ Below W.heap.size W w') := fun W => Lib.hid fun hb => X_s_LinkGood v v1 v2 ks msg tag l W ((h.below hb).more hb.size) ((h1.below hb).more hb.size) ((h2.below hb).more hb.size) hs hs1 hs2
  obtain ⟨A, n, c, rfl, _, h⟩ := h
  obtain ⟨A1, n1, c1, rfl, _, h1⟩ := h1
  obtain ⟨A2, n2, c2, rfl, _, h2⟩ := h2
  have HL := Lib.hid h.len
  have HL2 := Lib.hid h2.Twinlen
  have hn : n ≤ 1048576 := by have := HL.out; unfold szIntS at hs; omega
  have H := Lib.hid h
  have H2 := Lib.hid h2
  clear h h1 h2 hs hs1 hs2
  go_enter Try.func44, Try.ntmps44
  go_wp2_with fail
  refine ((HLG w).out (Below.refl _ _)).mono ?_
  rintro e w1 ⟨rfl, hb⟩
  have HB1 := Lib.hid hb
  have z1 := HB1.out.size
  clear hb HLG
  cases hg : lgoodB ks msg tag l
  · have HF := ltp_no (ks := ks) (msg := msg) (tag := tag) (l := l) (i := i) (s := s) (by unfold ltapeB; rw [hg]; rfl)
    go_wp2
    go_ret2
    exact ⟨_, ret_vb5 HF.out.1, by rw [HF.out.2]; exact OwIntS.nil5 _ _ _, HB1.out⟩
  have HG := Lib.hid (lgood_parts hg)
  go_wp2_with fail
  refine (s_l15Knows A n c ks i s w1 ((H.out.below HB1.out).more z1) hn).mono ?_
  rintro e w2 ⟨rfl, hst⟩
  have HB2 : Hid (Below w.heap.size w w2) := Lib.hid (HB1.out.trans ((hst.below _).mono z1))
  have z2 := HB2.out.size
  clear hst HB1 z1
  rw [HG.out.1, Bool.true_and]
  cases ho : ownB ks i s
  · have HF := ltp_no (ks := ks) (msg := msg) (tag := tag) (l := l) (i := i) (s := s) (by unfold ltapeB; rw [ho]; simp)
    go_wp2
    go_ret2
    exact ⟨_, ret_vb5 HF.out.1, by rw [HF.out.2]; exact OwIntS.nil5 _ _ _, HB2.out⟩
  have hlen := HG.out.2.1
  have hk6 := keysB_len HG.out.1
  have hown := ownB_at ho
  rw [HL.out] at hlen hk6
  rw [HL2.out] at hlen
  obtain rfl : n2 = n := hlen
  obtain ⟨⟨i0, i1⟩, ⟨s0, s1⟩, _⟩ := hown
  rw [HL.out] at i1
  obtain ⟨q, rfl⟩ := Int.eq_ofNat_of_zero_le i0
  obtain ⟨p, hp⟩ : ∃ p, Hid (powI 9 s 227 = p) := ⟨_, Lib.hid rfl⟩
  have HTG : Hid (Calls Try.prog 80 #[.int .i64 9, .int .i64 s] w2 fun e w' => e = .returned (.int .i64 p) ∧ w2 = w') := Lib.hid (by rw [← hp.out]; exact s_l1Pow 9 s w2 (by omega) (by omega) s0 (by omega))
  have HGO := Lib.hid (And.intro hg ho)
  clear hg ho
  go_wp2_with fail
  refine HTG.out.mono ?_
  rintro e w' ⟨rfl, rfl⟩
  clear HTG
  by_cases hut : p = tag
  rotate_left
  · have e1 : (p != tag) = true := by rw [bne_iff_ne]; exact hut
    have HF := ltp_no (ks := ks) (msg := msg) (tag := tag) (l := l) (i := (q : Int)) (s := s) (by unfold ltapeB; rw [hp.out]; simp [hut])
    go_wp2
    go_ret2
    exact ⟨_, ret_vb5 HF.out.1, by rw [HF.out.2]; exact OwIntS.nil5 _ _ _, HB2.out⟩
  have HF := ltp_yes (ks := ks) (msg := msg) (tag := tag) (l := l) (i := (q : Int)) (s := s) (by unfold ltapeB; rw [HGO.out.1, HGO.out.2, hp.out, hut]; simp)
  rw [Int.toNat_natCast, HL.out] at HF
  have HK2 : Hid (lgoodsK ks tag l n2 = true) := Lib.hid (by have := HG.out.2.2; rw [HL.out] at this; exact this)
  clear HGO HG hp
  subst hut
  obtain ⟨W0, hW0⟩ : ∃ W, Hid (w2.alloc (.cells #[] 3) = W) := ⟨_, Lib.hid rfl⟩
  have HB0 : Hid (Below w.heap.size w W0) := Lib.hid (by rw [← hW0.out]; exact HB2.out.alloc z2 _)
  have HO0 : Hid (W0.ownsRow w.heap.size 3 1 (.slice (some ⟨w2.heap.size, 0, none⟩) 0 0) (2 * 0) (cI (rawT l 0))) := Lib.hid (by rw [← hW0.out]; exact own_wide (own_empty w2 3 1) z2)
  go_wp2_with fail
  rw [hW0.out]
  clear hW0 HB2 z2
  go_loopw [14, 15] (fun t j wr => ∃ (k : Nat) (tv : Value), k ≤ n2 ∧ tv = t ∧ j = .int .i64 k ∧ Hid (wr.ownsRow w.heap.size 3 1 tv (2 * k) (cI (rawT l k))) ∧ Hid (Below w.heap.size w wr)) (fun _ j _ => n2 - (intOf j).toNat)
  case atStart => exact ⟨0, _, Nat.zero_le _, rfl, rfl, HO0, HB0⟩
  case round =>
    clear HO0 HB0
    obtain ⟨k, tv, hkn, rfl, rfl, HO, HB⟩ := hrel
    by_cases hlt : k < n2
    · obtain ⟨a, x, y, z, u, rfl, hab, hcx0, hcy0, hcz0, hcu0, HP⟩ := H2.out.TwinAt hlt
      have hba : (a.add (k * 4)).block < w.heap.size := by rw [add_block]; exact hab
      have hcz := (HB.out.cell (p := ⟨(a.add (k * 4)).block, (a.add (k * 4)).off + 2, none⟩) hba).trans hcz0
      have hcu := (HB.out.cell (p := ⟨(a.add (k * 4)).block, (a.add (k * 4)).off + 3, none⟩) hba).trans hcu0
      have HCZ := Lib.hid hcz0
      have HCU := Lib.hid hcu0
      clear hcx0 hcy0 hcz0 hcu0
      have j0 : (0 : Int) ≤ (k : Int) := by omega
      have j1 : (k : Int) < (n2 : Int) := by omega
      have HS : Hid (rawT l (k + 1) = rawT l k ++ [z, u]) := Lib.hid (by rw [rawT_succ, HP.out])
      clear HP
      have HW := HO
      clear HO
      go_wp2
      refine wp_region_held_drew (S := fun w' => w'.cell? ⟨(a.add (k * 4)).block, (a.add (k * 4)).off + 2, none⟩ = some (.int .i64 z) ∧ w'.cell? ⟨(a.add (k * 4)).block, (a.add (k * 4)).off + 3, none⟩ = some (.int .i64 u)) (by kernel_rfl) ⟨(HB.out.cell (p := ⟨(a.add (k * 4)).block, (a.add (k * 4)).off + 2, none⟩) hba).trans HCZ.out, (HB.out.cell (p := ⟨(a.add (k * 4)).block, (a.add (k * 4)).off + 3, none⟩) hba).trans HCU.out⟩ (fun hHeld => ?_)
      obtain ⟨u0, hu0⟩ : ∃ u0, Hid (wr.drew = u0) := ⟨_, Lib.hid rfl⟩
      rw [hu0.out] at hHeld ⊢
      have zs0 : wr.heap.size = u0.heap.size := by rw [← hu0.out]; rfl
      replace zs0 := Nat.le_of_eq zs0
      have HBl0 : Hid (Below w.heap.size w u0) := Lib.hid (by rw [← hu0.out]; exact HB.out.drew)
      have HW0 : Hid (u0.ownsRow w.heap.size 3 1 tv (2 * k) (cI (rawT l k))) := Lib.hid (by rw [← hu0.out]; exact HW.out)
      clear hu0
      refine wpAnyH_take (i := 0) (oi := { dst := some 42, op := Op.move (Operand.tmp 14), type := 22, pos := "l16_rings.go:110", after := #[], guard := none }) (v := ?_) rfl (by kernel_rfl) (by kernel_rfl) (by kernel_rfl) (fun _ _ _ h => h) (Or.inl ⟨by rfl, ?_⟩) hHeld ?_
      rotate_left
      · intro w hSw; obtain ⟨s0, s1⟩ := hSw; (try dsimp only at hSw); go_simp; (try with_reducible rfl)
      try simp only [Act.put, List.setIfInBounds_toArray, List.set_cons_zero, List.set_cons_succ]
      refine wpAnyH_take (i := 1) (oi := { dst := some 43, op := Op.move (Operand.tmp 3), type := 47, pos := "l16_rings.go:110", after := #[], guard := none }) (v := ?_) rfl (by kernel_rfl) (by kernel_rfl) (by kernel_rfl) (fun _ _ _ h => h) (Or.inl ⟨by rfl, ?_⟩) hHeld ?_
      rotate_left
      · intro w hSw; obtain ⟨s0, s1⟩ := hSw; (try dsimp only at hSw); go_simp; (try with_reducible rfl)
      try simp only [Act.put, List.setIfInBounds_toArray, List.set_cons_zero, List.set_cons_succ]
      refine wpAnyH_take (i := 2) (oi := { dst := some 44, op := Op.move (Operand.tmp 15), type := 3, pos := "l16_rings.go:110", after := #[], guard := none }) (v := ?_) rfl (by kernel_rfl) (by kernel_rfl) (by kernel_rfl) (fun _ _ _ h => h) (Or.inl ⟨by rfl, ?_⟩) hHeld ?_
      rotate_left
      · intro w hSw; obtain ⟨s0, s1⟩ := hSw; (try dsimp only at hSw); go_simp; (try with_reducible rfl)
      try simp only [Act.put, List.setIfInBounds_toArray, List.set_cons_zero, List.set_cons_succ]
      refine wpAnyH_take (i := 3) (oi := { dst := some 45, op := Op.indexAddr 47 (Operand.tmp 43) (Operand.tmp 44), type := 0, pos := "l16_rings.go:110", after := #[{ on := 1, ground := Ground.data }, { on := 2, ground := Ground.data }], guard := none }) (v := ?_) rfl (by kernel_rfl) (by kernel_rfl) (by kernel_rfl) (fun _ _ _ h => h) (Or.inl ⟨by rfl, ?_⟩) hHeld ?_
      rotate_left
      · intro w hSw; obtain ⟨s0, s1⟩ := hSw; (try dsimp only at hSw); go_simp; (try with_reducible rfl)
      try simp only [Act.put, List.setIfInBounds_toArray, List.set_cons_zero, List.set_cons_succ]
      refine wpAnyH_take (i := 4) (oi := { dst := some 46, op := Op.fieldAddr 101 (Operand.tmp 45) 2, type := 0, pos := "l16_rings.go:110", after := #[{ on := 3, ground := Ground.data }], guard := none }) (v := ?_) rfl (by kernel_rfl) (by kernel_rfl) (by kernel_rfl) (fun _ _ _ h => h) (Or.inl ⟨by rfl, ?_⟩) hHeld ?_
      rotate_left
      · intro w hSw; obtain ⟨s0, s1⟩ := hSw; (try dsimp only at hSw); go_simp; (try with_reducible rfl)
      try simp only [Act.put, List.setIfInBounds_toArray, List.set_cons_zero, List.set_cons_succ]
      refine wpAnyH_take (i := 5) (oi := { dst := some 47, op := Op.load 3 (Operand.tmp 46), type := 3, pos := "l16_rings.go:110", after := #[{ on := 4, ground := Ground.data }], guard := none }) (v := ?_) rfl (by kernel_rfl) (by kernel_rfl) (by kernel_rfl) (fun _ _ _ h => h) (Or.inl ⟨by rfl, ?_⟩) hHeld ?_
      rotate_left
      · intro w hSw; obtain ⟨s0, s1⟩ := hSw; (try dsimp only at hSw); go_simp; (try with_reducible rfl)
      try simp only [Act.put, List.setIfInBounds_toArray, List.set_cons_zero, List.set_cons_succ]
      refine wpAnyH_take (i := 6) (oi := { dst := some 48, op := Op.move (Operand.tmp 3), type := 47, pos := "l16_rings.go:110", after := #[], guard := none }) (v := ?_) rfl (by kernel_rfl) (by kernel_rfl) (by kernel_rfl) (fun _ _ _ h => h) (Or.inl ⟨by rfl, ?_⟩) hHeld ?_
      rotate_left
      · intro w hSw; obtain ⟨s0, s1⟩ := hSw; (try dsimp only at hSw); go_simp; (try with_reducible rfl)
      try simp only [Act.put, List.setIfInBounds_toArray, List.set_cons_zero, List.set_cons_succ]
      refine wpAnyH_take (i := 7) (oi := { dst := some 49, op := Op.move (Operand.tmp 15), type := 3, pos := "l16_rings.go:110", after := #[], guard := none }) (v := ?_) rfl (by kernel_rfl) (by kernel_rfl) (by kernel_rfl) (fun _ _ _ h => h) (Or.inl ⟨by rfl, ?_⟩) hHeld ?_
      rotate_left
      · intro w hSw; obtain ⟨s0, s1⟩ := hSw; (try dsimp only at hSw); go_simp; (try with_reducible rfl)
      try simp only [Act.put, List.setIfInBounds_toArray, List.set_cons_zero, List.set_cons_succ]
      refine wpAnyH_take (i := 8) (oi := { dst := some 50, op := Op.indexAddr 47 (Operand.tmp 48) (Operand.tmp 49), type := 0, pos := "l16_rings.go:110", after := #[{ on := 6, ground := Ground.data }, { on := 7, ground := Ground.data }], guard := none }) (v := ?_) rfl (by kernel_rfl) (by kernel_rfl) (by kernel_rfl) (fun _ _ _ h => h) (Or.inl ⟨by rfl, ?_⟩) hHeld ?_
      rotate_left
      · intro w hSw; obtain ⟨s0, s1⟩ := hSw; (try dsimp only at hSw); go_simp; (try with_reducible rfl)
      try simp only [Act.put, List.setIfInBounds_toArray, List.set_cons_zero, List.set_cons_succ]
      refine wpAnyH_take (i := 9) (oi := { dst := some 51, op := Op.fieldAddr 101 (Operand.tmp 50) 3, type := 0, pos := "l16_rings.go:110", after := #[{ on := 8, ground := Ground.data }], guard := none }) (v := ?_) rfl (by kernel_rfl) (by kernel_rfl) (by kernel_rfl) (fun _ _ _ h => h) (Or.inl ⟨by rfl, ?_⟩) hHeld ?_
      rotate_left
      · intro w hSw; obtain ⟨s0, s1⟩ := hSw; (try dsimp only at hSw); go_simp; (try with_reducible rfl)
      try simp only [Act.put, List.setIfInBounds_toArray, List.set_cons_zero, List.set_cons_succ]
      refine wpAnyH_take (i := 10) (oi := { dst := some 52, op := Op.load 3 (Operand.tmp 51), type := 3, pos := "l16_rings.go:110", after := #[{ on := 9, ground := Ground.data }], guard := none }) (v := ?_) rfl (by kernel_rfl) (by kernel_rfl) (by kernel_rfl) (fun _ _ _ h => h) (Or.inl ⟨by rfl, ?_⟩) hHeld ?_
      rotate_left
      · intro w hSw; obtain ⟨s0, s1⟩ := hSw; (try dsimp only at hSw); go_simp; (try with_reducible rfl)
      try simp only [Act.put, List.setIfInBounds_toArray, List.set_cons_zero, List.set_cons_succ]
      refine wpAnyH_ready (rs := [11]) (by kernel_rfl) (by simp) ?_
      refine AllReadyH.cons (o := { dst := some 53, op := Op.buildSlice 22 2 #[(0, Operand.tmp 47), (1, Operand.tmp 52)], type := 22, pos := "l16_rings.go:110", after := #[{ on := 5, ground := Ground.data }, { on := 10, ground := Ground.data }], guard := none }) rfl (fun K hK => ?_) ?_
      · go_simp
        obtain ⟨u1, hw1⟩ : ∃ W, Hid (u0.alloc (.cells #[.int .i64 z, .int .i64 u] 3) = W) := ⟨_, Lib.hid rfl⟩
        rw [hw1.out]
        have zs1 : u0.heap.size < u1.heap.size := by rw [← hw1.out, World.size_alloc]; omega
        have HBl1 : Hid (Below w.heap.size w u1) := Lib.hid (by rw [← hw1.out]; exact HBl0.out.alloc HBl0.out.size _)
        have HX_lit1 : Hid (Bx u1 u0.heap.size #[.int .i64 z, .int .i64 u] 3) := Lib.hid (by rw [← hw1.out]; exact Bx.new _ _ _)
        have hab1 : Below u0.heap.size u0 u1 := by rw [← hw1.out]; exact (Below.refl _ _).alloc (Nat.le_refl _) _
        have HW1 : Hid (u1.ownsRow w.heap.size 3 1 tv (2 * k) (cI (rawT l k))) := Lib.hid (ownsRow_below HW0.out hab1)
        clear hHeld hw1 hab1 HBl0 HW0
        refine hK.out _ _ ⟨((HBl1.out.cell (p := ⟨(a.add (k * 4)).block, (a.add (k * 4)).off + 2, none⟩) hba).trans HCZ.out), ((HBl1.out.cell (p := ⟨(a.add (k * 4)).block, (a.add (k * 4)).off + 3, none⟩) hba).trans HCU.out)⟩ (fun hHeld => ?_)
        clear hK K
        try simp only [Act.put, List.setIfInBounds_toArray, List.set_cons_zero, List.set_cons_succ]
        refine wpAnyH_ready (rs := [12]) (by kernel_rfl) (by simp) ?_
        refine AllReadyH.cons (o := { dst := some 54, op := Op.call { callee := Callee.builtin Builtin.append, args := #[Operand.tmp 42, Operand.tmp 53], argTypes := #[22, 22] }, type := 22, pos := "l16_rings.go:110", after := #[{ on := 0, ground := Ground.data }, { on := 11, ground := Ground.data }], guard := none }) rfl (fun K hK => ?_) ?_
        · refine step_append_rd rfl (.tmp 42) (.tmp 53) _ rfl w.heap.size 3 _ 1 8 Try.underlying22 info_int rfl (by decide) tv (2 * k) (cI (rawT l k)) rfl HW1.out _ _ 2 2 (cI [z, u]) rfl (HX_lit1.out.rdI rfl) (cI_one _) (by unfold maxLen; omega) (by omega) HBl1.out.size ?_
          intro v5 u2 hown hgr hat
          have zs2 : u1.heap.size ≤ u2.heap.size := hgr.size
          have HBl2 : Hid (Below w.heap.size w u2) := Lib.hid (below_grown HBl1.out hgr (fun g e => by have := own_ge HW1.out e; omega) HBl1.out.size)
          have HW2 : Hid (u2.ownsRow w.heap.size 3 1 v5 (2 * (k + 1)) (cI (rawT l (k + 1)))) := Lib.hid (by rw [HS.out, cI_app]; exact hown)
          clear hHeld hown hgr hat HBl1 HX_lit1 HW1
          refine hK.out _ _ ⟨((HBl2.out.cell (p := ⟨(a.add (k * 4)).block, (a.add (k * 4)).off + 2, none⟩) hba).trans HCZ.out), ((HBl2.out.cell (p := ⟨(a.add (k * 4)).block, (a.add (k * 4)).off + 3, none⟩) hba).trans HCU.out)⟩ (fun hHeld => ?_)
          clear hK K
          try simp only [Act.put, List.setIfInBounds_toArray, List.set_cons_zero, List.set_cons_succ]
          refine wpAnyH_take (i := 13) (oi := { dst := some 14, op := Op.assign (Operand.tmp 54), type := 22, pos := "l16_rings.go:110", after := #[{ on := 12, ground := Ground.data }, { on := 12, ground := Ground.chain }, { on := 0, ground := Ground.phase }, { on := 1, ground := Ground.phase }, { on := 2, ground := Ground.phase }, { on := 3, ground := Ground.phase }, { on := 4, ground := Ground.phase }, { on := 5, ground := Ground.phase }, { on := 6, ground := Ground.phase }, { on := 7, ground := Ground.phase }, { on := 8, ground := Ground.phase }, { on := 9, ground := Ground.phase }, { on := 10, ground := Ground.phase }, { on := 11, ground := Ground.phase }, { on := 12, ground := Ground.phase }], guard := none }) (v := ?_) rfl (by kernel_rfl) (by kernel_rfl) (by kernel_rfl) (fun _ _ _ h => h) (Or.inl ⟨by rfl, ?_⟩) hHeld ?_
          rotate_left
          · intro w hSw; obtain ⟨s0, s1⟩ := hSw; (try dsimp only at hSw); go_simp; (try with_reducible rfl)
          try simp only [Act.put, List.setIfInBounds_toArray, List.set_cons_zero, List.set_cons_succ]
          refine wpAnyH_done (by kernel_rfl) ?_ _
          go_wp2
          go_roundw
          case rel => exact ⟨k + 1, v5, by omega, rfl, by go_num, HW2, HBl2⟩
          case measure => simp [intOf] <;> omega
        exact AllReadyH.nil
      exact AllReadyH.nil
    · have hkn1 : k = n2 := by omega
      obtain ⟨At, ct, htv, hot⟩ := Ow.of_own HO.out
      obtain ⟨g, cs, hAt, hg0, hg1, _, _⟩ := hot.lt (by omega)
      subst htv
      subst hAt
      have HOW : Hid (Ow wr w.heap.size wr.heap.size 3 1 (some ⟨g, 0, none⟩) (2 * n2) ct (cI (rawT l n2))) := Lib.hid (by have := hot; rw [hkn1] at this; exact this)
      clear hot HO
      have hq : q < n2 := by omega
      obtain ⟨a, x0, y0_, y, z, rfl, hab, hcx0, hcw0, hcy0, hcz0, HP⟩ := H2.out.TwinAt hq
      have hba : (a.add (q * 4)).block < w.heap.size := by rw [add_block]; exact hab
      have hnum := (twGood_nums (lgoodsK_at HK2.out hq)).2.2
      rw [HP.out] at hnum
      have y0 : 0 ≤ y := hnum.1.1
      have y1 : y ≤ 112 := hnum.1.2
      have z0 : 0 ≤ z := hnum.2.1
      have z1 : z ≤ 112 := hnum.2.2
      clear hnum hcx0 hcw0
      have t2 : 2 * (q : Int) < 2 * (n2 : Int) := by omega
      obtain ⟨u, hu⟩ : ∃ u, Hid ((z - y * s) % 113 = u) := ⟨_, Lib.hid rfl⟩
      have HSET : Hid (((rawT l n2).set (2 * q) u).set (2 * q + 1) 0 = ltapeL l q s n2) := Lib.hid (by rw [← hu.out]; have := rawT_set l q s hq; rw [HP.out] at this; exact this)
      have HNV : Hid (nonceV s y z = u ∧ makeB s y z = true) := Lib.hid (by
        have hb : makeB s y z = true := by simp only [makeB, Bool.and_eq_true]; exact ⟨(numB_iff s).2 ⟨s0, s1⟩, (numB_iff y).2 ⟨y0, y1⟩, (numB_iff z).2 ⟨z0, z1⟩⟩
        exact ⟨by unfold nonceV; rw [if_pos hb, hu.out], hb⟩)
      have HNC : Hid (∀ W : World, Calls Try.prog 73 #[.int .i64 s, .int .i64 y, .int .i64 z] W fun e w' => e = .returned (.tuple #[.int .i64 u, .bool true]) ∧ Below W.heap.size W w') := Lib.hid fun W => by
        have := X_s_ProofNonce s y z W
        rw [HNV.out.1, HNV.out.2] at this; exact this
      have hl2 := rawT_length l n2
      have t0 : (0 : Int) ≤ 2 * (q : Int) := by omega
      have t1 : 2 * (q : Int) < ((2 * n2 : Nat) : Int) := by omega
      have tw : IntKind.i64.wrap (2 * (q : Int)) = 2 * (q : Int) := IntWalk.i64_in _ (by omega)
      have tn : (2 * (q : Int)).toNat = 2 * q := by omega
      clear HP
      have HW := HOW
      clear HOW
      go_wp2
      refine wp_region_held_drew (S := fun w' => w'.cell? ⟨(a.add (q * 4)).block, (a.add (q * 4)).off + 2, none⟩ = some (.int .i64 y) ∧ w'.cell? ⟨(a.add (q * 4)).block, (a.add (q * 4)).off + 3, none⟩ = some (.int .i64 z)) (by kernel_rfl) ⟨(HB.out.cell (p := ⟨(a.add (q * 4)).block, (a.add (q * 4)).off + 2, none⟩) hba).trans hcy0, (HB.out.cell (p := ⟨(a.add (q * 4)).block, (a.add (q * 4)).off + 3, none⟩) hba).trans hcz0⟩ (fun hHeld => ?_)
      obtain ⟨u0, hu0⟩ : ∃ u0, Hid (wr.drew = u0) := ⟨_, Lib.hid rfl⟩
      rw [hu0.out] at hHeld ⊢
      have zs0 : wr.heap.size = u0.heap.size := by rw [← hu0.out]; rfl
      replace zs0 := Nat.le_of_eq zs0
      have HBl0 : Hid (Below w.heap.size w u0) := Lib.hid (by rw [← hu0.out]; exact HB.out.drew)
      have HW0 : Hid (Ow u0 w.heap.size wr.heap.size 3 1 (some ⟨g, 0, none⟩) (2 * n2) ct (cI (rawT l n2))) := Lib.hid (by rw [← hu0.out]; exact HW.out)
      clear hu0
      refine wpAnyH_take (i := 0) (oi := { dst := some 56, op := Op.move (Operand.tmp 14), type := 22, pos := "l16_rings.go:112", after := #[], guard := none }) (v := ?_) rfl (by kernel_rfl) (by kernel_rfl) (by kernel_rfl) (fun _ _ _ h => h) (Or.inl ⟨by rfl, ?_⟩) hHeld ?_
      rotate_left
      · intro w hSw; obtain ⟨s0, s1⟩ := hSw; (try dsimp only at hSw); go_simp; (try with_reducible rfl)
      try simp only [Act.put, List.setIfInBounds_toArray, List.set_cons_zero, List.set_cons_succ]
      refine wpAnyH_take (i := 1) (oi := { dst := some 57, op := Op.move (Operand.tmp 4), type := 3, pos := "l16_rings.go:112", after := #[], guard := none }) (v := ?_) rfl (by kernel_rfl) (by kernel_rfl) (by kernel_rfl) (fun _ _ _ h => h) (Or.inl ⟨by rfl, ?_⟩) hHeld ?_
      rotate_left
      · intro w hSw; obtain ⟨s0, s1⟩ := hSw; (try dsimp only at hSw); go_simp; (try with_reducible rfl)
      try simp only [Act.put, List.setIfInBounds_toArray, List.set_cons_zero, List.set_cons_succ]
      refine wpAnyH_take (i := 2) (oi := { dst := some 58, op := Op.binOp BinOp.mul 3 (Operand.const (Value.int IntKind.i64 2)) (Operand.tmp 57) 3, type := 3, pos := "l16_rings.go:112", after := #[{ on := 1, ground := Ground.data }], guard := none }) (v := ?_) rfl (by kernel_rfl) (by kernel_rfl) (by kernel_rfl) (fun _ _ _ h => h) (Or.inl ⟨by rfl, ?_⟩) hHeld ?_
      rotate_left
      · intro w hSw; obtain ⟨s0, s1⟩ := hSw; (try dsimp only at hSw); go_simp; (try with_reducible rfl)
      try simp only [Act.put, List.setIfInBounds_toArray, List.set_cons_zero, List.set_cons_succ]
      refine wpAnyH_take (i := 3) (oi := { dst := some 59, op := Op.move (Operand.tmp 5), type := 3, pos := "l16_rings.go:112", after := #[], guard := none }) (v := ?_) rfl (by kernel_rfl) (by kernel_rfl) (by kernel_rfl) (fun _ _ _ h => h) (Or.inl ⟨by rfl, ?_⟩) hHeld ?_
      rotate_left
      · intro w hSw; obtain ⟨s0, s1⟩ := hSw; (try dsimp only at hSw); go_simp; (try with_reducible rfl)
      try simp only [Act.put, List.setIfInBounds_toArray, List.set_cons_zero, List.set_cons_succ]
      refine wpAnyH_take (i := 4) (oi := { dst := some 60, op := Op.move (Operand.tmp 3), type := 47, pos := "l16_rings.go:112", after := #[], guard := none }) (v := ?_) rfl (by kernel_rfl) (by kernel_rfl) (by kernel_rfl) (fun _ _ _ h => h) (Or.inl ⟨by rfl, ?_⟩) hHeld ?_
      rotate_left
      · intro w hSw; obtain ⟨s0, s1⟩ := hSw; (try dsimp only at hSw); go_simp; (try with_reducible rfl)
      try simp only [Act.put, List.setIfInBounds_toArray, List.set_cons_zero, List.set_cons_succ]
      refine wpAnyH_take (i := 5) (oi := { dst := some 61, op := Op.move (Operand.tmp 4), type := 3, pos := "l16_rings.go:112", after := #[], guard := none }) (v := ?_) rfl (by kernel_rfl) (by kernel_rfl) (by kernel_rfl) (fun _ _ _ h => h) (Or.inl ⟨by rfl, ?_⟩) hHeld ?_
      rotate_left
      · intro w hSw; obtain ⟨s0, s1⟩ := hSw; (try dsimp only at hSw); go_simp; (try with_reducible rfl)
      try simp only [Act.put, List.setIfInBounds_toArray, List.set_cons_zero, List.set_cons_succ]
      refine wpAnyH_take (i := 6) (oi := { dst := some 62, op := Op.indexAddr 47 (Operand.tmp 60) (Operand.tmp 61), type := 0, pos := "l16_rings.go:112", after := #[{ on := 4, ground := Ground.data }, { on := 5, ground := Ground.data }], guard := none }) (v := ?_) rfl (by kernel_rfl) (by kernel_rfl) (by kernel_rfl) (fun _ _ _ h => h) (Or.inl ⟨by rfl, ?_⟩) hHeld ?_
      rotate_left
      · intro w hSw; obtain ⟨s0, s1⟩ := hSw; (try dsimp only at hSw); go_simp; (try with_reducible rfl)
      try simp only [Act.put, List.setIfInBounds_toArray, List.set_cons_zero, List.set_cons_succ]
      refine wpAnyH_take (i := 7) (oi := { dst := some 63, op := Op.fieldAddr 101 (Operand.tmp 62) 2, type := 0, pos := "l16_rings.go:112", after := #[{ on := 6, ground := Ground.data }], guard := none }) (v := ?_) rfl (by kernel_rfl) (by kernel_rfl) (by kernel_rfl) (fun _ _ _ h => h) (Or.inl ⟨by rfl, ?_⟩) hHeld ?_
      rotate_left
      · intro w hSw; obtain ⟨s0, s1⟩ := hSw; (try dsimp only at hSw); go_simp; (try with_reducible rfl)
      try simp only [Act.put, List.setIfInBounds_toArray, List.set_cons_zero, List.set_cons_succ]
      refine wpAnyH_take (i := 8) (oi := { dst := some 64, op := Op.load 3 (Operand.tmp 63), type := 3, pos := "l16_rings.go:112", after := #[{ on := 7, ground := Ground.data }], guard := none }) (v := ?_) rfl (by kernel_rfl) (by kernel_rfl) (by kernel_rfl) (fun _ _ _ h => h) (Or.inl ⟨by rfl, ?_⟩) hHeld ?_
      rotate_left
      · intro w hSw; obtain ⟨s0, s1⟩ := hSw; (try dsimp only at hSw); go_simp; (try with_reducible rfl)
      try simp only [Act.put, List.setIfInBounds_toArray, List.set_cons_zero, List.set_cons_succ]
      refine wpAnyH_take (i := 9) (oi := { dst := some 65, op := Op.move (Operand.tmp 3), type := 47, pos := "l16_rings.go:112", after := #[], guard := none }) (v := ?_) rfl (by kernel_rfl) (by kernel_rfl) (by kernel_rfl) (fun _ _ _ h => h) (Or.inl ⟨by rfl, ?_⟩) hHeld ?_
      rotate_left
      · intro w hSw; obtain ⟨s0, s1⟩ := hSw; (try dsimp only at hSw); go_simp; (try with_reducible rfl)
      try simp only [Act.put, List.setIfInBounds_toArray, List.set_cons_zero, List.set_cons_succ]
      refine wpAnyH_take (i := 10) (oi := { dst := some 66, op := Op.move (Operand.tmp 4), type := 3, pos := "l16_rings.go:112", after := #[], guard := none }) (v := ?_) rfl (by kernel_rfl) (by kernel_rfl) (by kernel_rfl) (fun _ _ _ h => h) (Or.inl ⟨by rfl, ?_⟩) hHeld ?_
      rotate_left
      · intro w hSw; obtain ⟨s0, s1⟩ := hSw; (try dsimp only at hSw); go_simp; (try with_reducible rfl)
      try simp only [Act.put, List.setIfInBounds_toArray, List.set_cons_zero, List.set_cons_succ]
      refine wpAnyH_take (i := 11) (oi := { dst := some 67, op := Op.indexAddr 47 (Operand.tmp 65) (Operand.tmp 66), type := 0, pos := "l16_rings.go:112", after := #[{ on := 9, ground := Ground.data }, { on := 10, ground := Ground.data }], guard := none }) (v := ?_) rfl (by kernel_rfl) (by kernel_rfl) (by kernel_rfl) (fun _ _ _ h => h) (Or.inl ⟨by rfl, ?_⟩) hHeld ?_
      rotate_left
      · intro w hSw; obtain ⟨s0, s1⟩ := hSw; (try dsimp only at hSw); go_simp; (try with_reducible rfl)
      try simp only [Act.put, List.setIfInBounds_toArray, List.set_cons_zero, List.set_cons_succ]
      refine wpAnyH_take (i := 12) (oi := { dst := some 68, op := Op.fieldAddr 101 (Operand.tmp 67) 3, type := 0, pos := "l16_rings.go:112", after := #[{ on := 11, ground := Ground.data }], guard := none }) (v := ?_) rfl (by kernel_rfl) (by kernel_rfl) (by kernel_rfl) (fun _ _ _ h => h) (Or.inl ⟨by rfl, ?_⟩) hHeld ?_
      rotate_left
      · intro w hSw; obtain ⟨s0, s1⟩ := hSw; (try dsimp only at hSw); go_simp; (try with_reducible rfl)
      try simp only [Act.put, List.setIfInBounds_toArray, List.set_cons_zero, List.set_cons_succ]
      refine wpAnyH_take (i := 13) (oi := { dst := some 69, op := Op.load 3 (Operand.tmp 68), type := 3, pos := "l16_rings.go:112", after := #[{ on := 12, ground := Ground.data }], guard := none }) (v := ?_) rfl (by kernel_rfl) (by kernel_rfl) (by kernel_rfl) (fun _ _ _ h => h) (Or.inl ⟨by rfl, ?_⟩) hHeld ?_
      rotate_left
      · intro w hSw; obtain ⟨s0, s1⟩ := hSw; (try dsimp only at hSw); go_simp; (try with_reducible rfl)
      try simp only [Act.put, List.setIfInBounds_toArray, List.set_cons_zero, List.set_cons_succ]
      refine wpAnyH_ready (rs := [14]) (by kernel_rfl) (by simp) ?_
      refine AllReadyH.cons (o := { dst := some 70, op := Op.call { callee := Callee.value (Operand.func 73), args := #[Operand.tmp 59, Operand.tmp 64, Operand.tmp 69], argTypes := #[3, 3, 3] }, type := 90, pos := "l16_rings.go:112", after := #[{ on := 3, ground := Ground.data }, { on := 8, ground := Ground.data }, { on := 13, ground := Ground.data }], guard := none }) rfl (fun K hK => ?_) ?_
      · go_simp
        refine (HNC.out u0).mono ?_
        rintro e u1 ⟨rfl, hb_⟩
        have zs1 : u0.heap.size ≤ u1.heap.size := hb_.size
        have HBl1 : Hid (Below w.heap.size w u1) := Lib.hid (HBl0.out.trans (hb_.mono HBl0.out.size))
        have HW1 : Hid (Ow u1 w.heap.size wr.heap.size 3 1 (some ⟨g, 0, none⟩) (2 * n2) ct (cI (rawT l n2))) := Lib.hid (HW0.out.below hb_ (by omega))
        clear hHeld hb_ HBl0 HW0
        (try dsimp only)
        (try go_wp2_with fail)
        refine hK.out _ _ ⟨((HBl1.out.cell (p := ⟨(a.add (q * 4)).block, (a.add (q * 4)).off + 2, none⟩) hba).trans hcy0), ((HBl1.out.cell (p := ⟨(a.add (q * 4)).block, (a.add (q * 4)).off + 3, none⟩) hba).trans hcz0)⟩ (fun hHeld => ?_)
        clear hK K
        try simp only [Act.put, List.setIfInBounds_toArray, List.set_cons_zero, List.set_cons_succ]
        refine wpAnyH_take (i := 15) (oi := { dst := some 55, op := Op.move (Operand.tmp 70), type := 90, pos := "l16_rings.go:112", after := #[{ on := 14, ground := Ground.data }], guard := none }) (v := ?_) rfl (by kernel_rfl) (by kernel_rfl) (by kernel_rfl) (fun _ _ _ h => h) (Or.inl ⟨by rfl, ?_⟩) hHeld ?_
        rotate_left
        · intro w hSw; obtain ⟨s0, s1⟩ := hSw; (try dsimp only at hSw); go_simp; (try with_reducible rfl)
        try simp only [Act.put, List.setIfInBounds_toArray, List.set_cons_zero, List.set_cons_succ]
        refine wpAnyH_take (i := 16) (oi := { dst := some 71, op := Op.extract (Operand.tmp 55) 0, type := 3, pos := "l16_rings.go:112", after := #[{ on := 15, ground := Ground.data }], guard := none }) (v := ?_) rfl (by kernel_rfl) (by kernel_rfl) (by kernel_rfl) (fun _ _ _ h => h) (Or.inl ⟨by rfl, ?_⟩) hHeld ?_
        rotate_left
        · intro w hSw; obtain ⟨s0, s1⟩ := hSw; (try dsimp only at hSw); go_simp; (try with_reducible rfl)
        try simp only [Act.put, List.setIfInBounds_toArray, List.set_cons_zero, List.set_cons_succ]
        refine wpAnyH_take (i := 17) (oi := { dst := some 72, op := Op.extract (Operand.tmp 55) 1, type := 4, pos := "l16_rings.go:112", after := #[{ on := 15, ground := Ground.data }, { on := 19, ground := Ground.gcOnly Departure.lateStores }], guard := none }) (v := ?_) rfl (by kernel_rfl) (by kernel_rfl) (by kernel_rfl) (fun _ _ _ h => h) (Or.inl ⟨by rfl, ?_⟩) hHeld ?_
        rotate_left
        · intro w hSw; obtain ⟨s0, s1⟩ := hSw; (try dsimp only at hSw); go_simp; (try with_reducible rfl)
        try simp only [Act.put, List.setIfInBounds_toArray, List.set_cons_zero, List.set_cons_succ]
        refine wpAnyH_take (i := 18) (oi := { dst := some 73, op := Op.indexAddr 22 (Operand.tmp 56) (Operand.tmp 58), type := 0, pos := "l16_rings.go:112", after := #[{ on := 0, ground := Ground.data }, { on := 2, ground := Ground.data }, { on := 0, ground := Ground.phase }, { on := 1, ground := Ground.phase }, { on := 2, ground := Ground.phase }, { on := 3, ground := Ground.phase }, { on := 4, ground := Ground.phase }, { on := 5, ground := Ground.phase }, { on := 6, ground := Ground.phase }, { on := 7, ground := Ground.phase }, { on := 8, ground := Ground.phase }, { on := 9, ground := Ground.phase }, { on := 10, ground := Ground.phase }, { on := 11, ground := Ground.phase }, { on := 12, ground := Ground.phase }, { on := 13, ground := Ground.phase }, { on := 14, ground := Ground.phase }, { on := 15, ground := Ground.phase }, { on := 16, ground := Ground.phase }, { on := 17, ground := Ground.textOnly Departure.lateStores }], guard := none }) (v := ?_) rfl (by kernel_rfl) (by kernel_rfl) (by kernel_rfl) (fun _ _ _ h => h) (Or.inl ⟨by rfl, ?_⟩) hHeld ?_
        rotate_left
        · intro w hSw; obtain ⟨s0, s1⟩ := hSw; (try dsimp only at hSw); go_simp; (try with_reducible rfl)
        try simp only [Act.put, List.setIfInBounds_toArray, List.set_cons_zero, List.set_cons_succ]
        refine wpAnyH_ready (rs := [19]) (by kernel_rfl) (by simp) ?_
        refine AllReadyH.cons (o := { dst := none, op := Op.store 3 (Operand.tmp 73) (Operand.tmp 71), type := 0, pos := "l16_rings.go:112", after := #[{ on := 18, ground := Ground.data }, { on := 16, ground := Ground.data }, { on := 14, ground := Ground.chain }, { on := 0, ground := Ground.phase }, { on := 1, ground := Ground.phase }, { on := 2, ground := Ground.phase }, { on := 3, ground := Ground.phase }, { on := 4, ground := Ground.phase }, { on := 5, ground := Ground.phase }, { on := 6, ground := Ground.phase }, { on := 7, ground := Ground.phase }, { on := 8, ground := Ground.phase }, { on := 9, ground := Ground.phase }, { on := 10, ground := Ground.phase }, { on := 11, ground := Ground.phase }, { on := 12, ground := Ground.phase }, { on := 13, ground := Ground.phase }, { on := 14, ground := Ground.phase }, { on := 15, ground := Ground.phase }, { on := 16, ground := Ground.phase }, { on := 17, ground := Ground.textOnly Departure.lateStores }], guard := none }) rfl (fun K hK => ?_) ?_
        · have xc : u1.cell? ⟨g, 2 * q, none⟩ = some _ := HW1.out.cellAt (cI_get _ _ (by omega))
          have xf : u1.frozen? ⟨g, 2 * q, none⟩ = false := HW1.out.free (by omega) (2 * q)
          go_simp
          obtain ⟨u2, hw2⟩ : ∃ W, Hid ((u1.setCell ⟨g, 2 * q, none⟩ (.int .i64 u)) = W) := ⟨_, Lib.hid rfl⟩
          rw [hw2.out]
          have hk2 : Kept (g) (g + 1) u1 u2 := by rw [← hw2.out]; exact (Kept.refl _ _ _).setCell (p := ⟨g, 2 * q, none⟩) (Nat.le_refl _) (Nat.lt_succ_self _) _
          have zs2 : u1.heap.size ≤ u2.heap.size := hk2.size
          have HBl2 : Hid (Below w.heap.size w u2) := Lib.hid (by rw [← hw2.out]; exact HBl1.out.setCell (p := ⟨g, 2 * q, none⟩) (by simp only; omega) _)
          have HW2 : Hid (Ow u2 w.heap.size wr.heap.size 3 1 (some ⟨g, 0, none⟩) (2 * n2) ct (cI ((rawT l n2).set (2 * q) u))) := Lib.hid (by rw [← hw2.out]; have h0 := HW1.out.set (2 * q) (.int .i64 u); rw [cI_set] at h0; exact h0)
          clear hHeld hw2 hk2 xc xf HBl1 HW1
          refine hK.out _ _ ⟨((HBl2.out.cell (p := ⟨(a.add (q * 4)).block, (a.add (q * 4)).off + 2, none⟩) hba).trans hcy0), ((HBl2.out.cell (p := ⟨(a.add (q * 4)).block, (a.add (q * 4)).off + 3, none⟩) hba).trans hcz0)⟩ (fun hHeld => ?_)
          clear hK K
          try simp only [Act.put]
          refine wpAnyH_done (by kernel_rfl) ?_ _
          have HB := HBl2
          have HW := HW2
          have xc : u2.cell? ⟨g, 2 * q + 1, none⟩ = some _ := HW.out.cellAt (cI_get _ _ (by rw [List.length_set]; omega))
          have xf : u2.frozen? ⟨g, 2 * q + 1, none⟩ = false := HW.out.free (by omega) (2 * q + 1)
          have HWZ := Lib.hid (HW.out.set (2 * q + 1) (.int .i64 0))
          rw [cI_set, HSET.out] at HWZ
          have HBZ := Lib.hid (HB.out.setCell (p := ⟨g, 2 * q + 1, none⟩) (by simp only; omega) (.int .i64 0))
          clear HB HW HBl2 HW2
          have s0_ : (0 : Int) ≤ 2 * (q : Int) + 1 := by omega
          have s1_ : 2 * (q : Int) + 1 < ((2 * n2 : Nat) : Int) := by omega
          have s2_ : (2 * (q : Int) + 1).toNat = 2 * q + 1 := by omega
          have s3_ : (2 * (q : Int) + 1) < 2 * (n2 : Int) := by omega
          go_wp2
          go_ret2
          exact ⟨_, ret_vb5 HF.out.1, by rw [HF.out.2]; exact ⟨by rw [ltapeL_length]; omega, _, _, _, rfl, HWZ.out.widen (Nat.le_refl _) (by rw [World.size_setCell]; omega)⟩, HBZ.out⟩
        exact AllReadyH.nil
      exact AllReadyH.nil
end Go.Proofs.Ytalokhilodlhfaa
