/- Chapter 16: LinkGood of the program, whole. -/
import Derived.Test.YtdhakbpimbadgaaWalk16h
namespace Go.Proofs.Ytdhakbpimbadgaa
open Go.RowKit
set_option maxRecDepth 100000

theorem field_sigT (y z : Value) (W : World) : (Instr.field 89 (.agg #[y, z]) 0).run Try.prog W = .ok y W := by kernel_rfl
theorem lgoods_coms {ks : List Int} {tag : Int} {l : List Tw} {n : Nat} (hl : l.length = n) (hg : lgoodsK ks tag l n = true) : mixB (comsT l) = true := by
  unfold mixB
  rw [List.all_eq_true]
  intro v hv
  obtain ⟨p, hp, hv⟩ := List.mem_flatMap.1 hv
  obtain ⟨k, hk, rfl⟩ := List.getElem_of_mem hp
  have := twGood_nums (lgoodsK_at hg (by omega : k < n))
  rw [List.getD_eq_getElem?_getD, List.getElem?_eq_getElem hk] at this
  simp only [Option.getD_some] at this
  simp only [List.mem_cons, List.not_mem_nil, or_false] at hv
  simp only [decide_eq_true_eq]; rcases hv with rfl | rfl <;> omega
theorem lmixB {ks msg : List Int} {tag : Int} {l : List Tw} (hk : keysB ks = true) (hm : msgB msg = true) (ht : elB tag = true) (hc : mixB (comsT l) = true) : mixB (msg ++ ks ++ [tag] ++ comsT l) = true := by
  have h1 : mixB msg = true := mixB_nums (by simp only [msgB, Bool.and_eq_true] at hm; exact hm.2)
  have h2 : mixB ks = true := mixB_els (by simp only [keysB, Bool.and_eq_true] at hk; exact hk.2)
  have h3 : mixB [tag] = true := mixB_els (by simp [elsB, ht])
  rw [mixB_append, mixB_append, mixB_append, h1, h2, h3, hc]; rfl

set_option maxHeartbeats 4000000 in
theorem i_linkSigning (tag : Int) (A : Option Addr) (n c : Nat) (ks : List Int) (A1 : Option Addr) (n1 c1 : Nat) (msg : List Int) (A2 : Option Addr) (n2 c2 : Nat) (l : List Tw) (w : World) (h : Rd w w.heap.size 1 A n (cI ks)) (h1 : Rd w w.heap.size 1 A1 n1 (cI msg)) (h2 : Rd w w.heap.size 4 A2 n2 (cTwin l)) (hn : n ≤ 1048576) (hn1 : n1 ≤ 1048576) (hn2 : n2 ≤ 1048576) :
    Calls Try.prog 64 #[.slice A n c, .slice A1 n1 c1, .int .i64 tag, .slice A2 n2 c2] w fun e w' => ∃ Ar cr, e = .returned (.agg #[.slice Ar (n1 + n + 1 + 2 * n2) cr, .slice A2 n2 c2]) ∧ Rd w' w'.heap.size 1 Ar (n1 + n + 1 + 2 * n2) (cI (msg ++ ks ++ [tag] ++ comsT l)) ∧ Below w.heap.size w w' := by
  have H := Lib.hid h
  have H1 := Lib.hid h1
  have H2 := Lib.hid h2
  have HL := Lib.hid h.len
  have HL1 := Lib.hid h1.len
  clear h h1 h2
  obtain ⟨Wa, hWa⟩ : ∃ W, Hid ((w.alloc (.cells #[.slice none 0 0, .slice none 0 0] 89)).alloc (.cells #[.int .i64 tag] 3) = W) := ⟨_, Lib.hid rfl⟩
  have za : Wa.heap.size = w.heap.size + 2 := by rw [← hWa.out]; simp
  have HBa : Hid (Below w.heap.size w Wa) := Lib.hid (by rw [← hWa.out]; exact ((Below.refl _ _).alloc (Nat.le_refl _) _).alloc (by simp only [World.size_alloc]; omega) _)
  have HRa : Hid (Bx Wa w.heap.size #[.slice none 0 0, .slice none 0 0] 89) := Lib.hid (by rw [← hWa.out]; exact (Bx.new _ _ _).alloc _)
  have HTa : Hid (Bx Wa (w.heap.size + 1) #[.int .i64 tag] 3) := Lib.hid (by rw [← hWa.out]; have := Bx.new (w.alloc (.cells #[.slice none 0 0, .slice none 0 0] 89)) #[.int .i64 tag] 3; simp only [World.size_alloc] at this; exact this)
  obtain ⟨W0, hW0⟩ : ∃ W, Hid (Wa.alloc (.cells #[.slice A1 n1 c1, .slice A n c, .slice (some ⟨w.heap.size + 1, 0, none⟩) 1 1] 22) = W) := ⟨_, Lib.hid rfl⟩
  have HB0 : Hid (Below w.heap.size w W0) := Lib.hid (by rw [← hW0.out]; exact HBa.out.alloc HBa.out.size _)
  have HR0 : Hid (Bx W0 w.heap.size #[.slice none 0 0, .slice none 0 0] 89) := Lib.hid (by rw [← hW0.out]; exact HRa.out.alloc _)
  have HT0 : Hid (Bx W0 (w.heap.size + 1) #[.int .i64 tag] 3) := Lib.hid (by rw [← hW0.out]; exact HTa.out.alloc _)
  have HS0 : Hid (Bx W0 (w.heap.size + 2) #[.slice A1 n1 c1, .slice A n c, .slice (some ⟨w.heap.size + 1, 0, none⟩) 1 1] 22) := Lib.hid (by rw [← hW0.out, ← za]; exact Bx.new _ _ _)
  have z0 := HB0.out.size
  have HC : Hid (Calls Try.prog 95 #[.slice (some ⟨w.heap.size + 2, 0, none⟩) 3 3] W0 fun e w' => ∃ A' c', e = .returned (.slice A' (n1 + n + 1) c') ∧ Ow w' W0.heap.size w'.heap.size 3 1 A' (n1 + n + 1) c' (cI (msg ++ ks ++ [tag])) ∧ Below W0.heap.size W0 w') := Lib.hid (by
    have hfl : [msg, ks, [tag]].flatten = msg ++ ks ++ [tag] := by simp
    have hr : RdR W0 W0.heap.size (some ⟨w.heap.size + 2, 0, none⟩) 3 [.slice A1 n1 c1, .slice A n c, .slice (some ⟨w.heap.size + 1, 0, none⟩) 1 1] [msg, ks, [tag]] := by
      refine ⟨HS0.out.rdV rfl rfl, rfl, fun i hi => ?_⟩
      match i, hi with
      | 0, _ => exact ⟨A1, n1, c1, rfl, by omega, (H1.out.below HB0.out).more z0⟩
      | 1, _ => exact ⟨A, n, c, rfl, by omega, (H.out.below HB0.out).more z0⟩
      | 2, _ => exact ⟨_, 1, 1, rfl, by omega, HT0.out.rdI (zs := [tag]) rfl⟩
    have := i_Concat (some ⟨w.heap.size + 2, 0, none⟩) 3 3 _ _ W0 hr (by omega) (by rw [hfl, List.length_append, List.length_append, HL.out, HL1.out]; simp; omega)
    rw [hfl, List.length_append, List.length_append, HL.out, HL1.out] at this
    exact this)
  clear HS0 HT0 HTa HRa HBa
  go_enter Try.func64, Try.ntmps64
  go_wp2_with fail
  rw [hWa.out, hW0.out]
  clear hW0 hWa za
  refine HC.out.mono ?_
  rintro e w1 ⟨A', c', rfl, ho, hb⟩
  have HO := Lib.hid ho
  have HB1 : Hid (Below w.heap.size w w1) := Lib.hid (HB0.out.trans (hb.mono z0))
  have HR1 := Lib.hid (HR0.out.below hb HR0.out.lt)
  have z1 := HB1.out.size
  clear ho hb HC HB0 HR0 z0
  go_wp2_with fail
  refine (i_signing_Twin A' (n1 + n + 1) c' (msg ++ ks ++ [tag]) A2 n2 c2 l w1 (HO.out.rd.more (Nat.le_refl _)) ((H2.out.below HB1.out).more z1) (by omega) hn2).mono ?_
  rintro e w2 ⟨Ar, cr, rfl, hr, hb⟩
  have HO2 := Lib.hid hr
  have zb := HR1.out.lt
  have HB2 : Hid (Below w.heap.size w w2) := Lib.hid (HB1.out.trans (hb.mono z1))
  have HR2 := Lib.hid (HR1.out.below hb HR1.out.lt)
  clear hr hb HB1 HR1 z1 HO
  have r0 : w2.cell? ⟨w.heap.size, 0, none⟩ = some (.slice none 0 0) := HR2.out.cell 0
  have r1 : w2.cell? ⟨w.heap.size, 1, none⟩ = some (.slice none 0 0) := HR2.out.cell 1
  have g0 : w2.frozen? ⟨w.heap.size, 0, none⟩ = false := HR2.out.free 0
  have g1 : w2.frozen? ⟨w.heap.size, 1, none⟩ = false := HR2.out.free 1
  go_wp2
  have hk2 := st14_2 w2 w.heap.size (.slice Ar (n1 + n + 1 + 2 * n2) cr) (.slice A2 n2 c2)
  have hz2 := HB2.out.size
  exact bodyPost_ret (v := .agg #[.slice Ar (n1 + n + 1 + 2 * n2) cr, .slice A2 n2 c2]) (resSigTwin1 rfl rfl ((HR2.out.set 0 (.slice Ar (n1 + n + 1 + 2 * n2) cr)).set 1 (.slice A2 n2 c2))) rfl
    ⟨Ar, cr, rfl, ((HO2.out.kept hk2 (Nat.le_refl _) (.inl (by omega))).widen (Nat.le_refl _) hk2.size).rd, HB2.out.trans ((hk2.to_below (by have := HR2.out.lt; omega)).mono (Nat.le_refl _))⟩

theorem eg_LinkGood1 (args : Array Value) (W : World) : (callFunc 77 args).run Try.prog W = .ok (.enter 77 args) W := by kernel_rfl
set_option maxHeartbeats 4000000 in
theorem X_i_LinkGood (v v1 v2 : Value) (ks msg : List Int) (tag : Int) (l : List Tw) (w : World) (h : RdIntS w w.heap.size v ks) (h1 : RdIntS w w.heap.size v1 msg) (h2 : RdTwinS w w.heap.size v2 l) (hs : szIntS ks ≤ 1048576) (hs1 : szIntS msg ≤ 1048576) (hs2 : szTwinS l ≤ 1048576) :
    Calls Try.prog 34 #[v, v1, .int .i64 tag, v2] w fun e w' => e = .returned (.bool (lgoodB ks msg tag l)) ∧ Below w.heap.size w w' := by
  obtain ⟨A, n, c, rfl, _, h⟩ := h
  obtain ⟨A1, n1, c1, rfl, _, h1⟩ := h1
  obtain ⟨A2, n2, c2, rfl, _, h2⟩ := h2
  have HL := Lib.hid h.len
  have HL1 := Lib.hid h1.len
  have HL2 := Lib.hid h2.Twinlen
  have hn : n ≤ 1048576 := by have := HL.out; unfold szIntS at hs; omega
  have hn1 : n1 ≤ 1048576 := by have := HL1.out; unfold szIntS at hs1; omega
  have hn2 : n2 ≤ 1048576 := by have := HL2.out; unfold szTwinS at hs2; omega
  have H := Lib.hid h
  have H1 := Lib.hid h1
  have H2 := Lib.hid h2
  clear h h1 h2 hs hs1 hs2
  obtain ⟨W0, hW0⟩ : ∃ W, Hid (w.alloc (.cells #[.int .i64 tag] 3) = W) := ⟨_, Lib.hid rfl⟩
  have HB0 : Hid (Below w.heap.size w W0) := Lib.hid (by rw [← hW0.out]; exact (Below.refl _ _).alloc (Nat.le_refl _) _)
  have HX0 : Hid (Bx W0 w.heap.size #[.int .i64 tag] 3) := Lib.hid (by rw [← hW0.out]; exact Bx.new _ _ _)
  have z0 := HB0.out.size
  go_enter Try.func34, Try.ntmps34
  go_wp2_with fail
  rw [hW0.out]
  clear hW0
  refine (i_keysOk _ _ _ _ W0 ((H.out.below HB0.out).more z0) hn).mono ?_
  rintro e w' ⟨rfl, rfl⟩
  cases hk : keysB ks
  · have HF : Hid (false = lgoodB ks msg tag l) := Lib.hid (by unfold lgoodB; rw [hk]; rfl)
    go_wp2
    go_ret
    exact ⟨ret_bool HF.out, HB0.out⟩
  go_wp2_with fail
  refine (i_messageOk _ _ _ _ W0 ((H1.out.below HB0.out).more z0) hn1).mono ?_
  rintro e w' ⟨rfl, rfl⟩
  cases hm : msgB msg
  · have HF : Hid (false = lgoodB ks msg tag l) := Lib.hid (by unfold lgoodB; rw [hm]; simp)
    go_wp2
    go_ret
    exact ⟨ret_bool HF.out, HB0.out⟩
  have f0 : W0.cell? ⟨w.heap.size, 0, none⟩ = some (.int .i64 tag) := HX0.out.cell 0
  go_wp2_with fail
  refine (i_ElementOk tag W0).mono ?_
  rintro e w' ⟨rfl, rfl⟩
  cases ht : elB tag
  · have HF : Hid (false = lgoodB ks msg tag l) := Lib.hid (by unfold lgoodB; rw [ht]; simp)
    go_wp2
    go_ret
    exact ⟨ret_bool HF.out, HB0.out⟩
  have HEG := i_eachGood_Twin 77 #[.pointer (some ⟨w.heap.size, 0, none⟩)] (fun k t => twGood k tag t) A n c ks A2 n2 c2 l W0 ((H.out.below HB0.out).more z0) ((H2.out.below HB0.out).more z0) hn hn2 eg_LinkGood1
    (fun q x y z u W hb => i_LinkGood1 w.heap.size q tag x y z u W (HX0.out.below hb HX0.out.lt))
  rw [gK_tw] at HEG
  obtain ⟨gb, hgb⟩ : ∃ b, Hid ((decide (l.length = ks.length) && lgoodsK ks tag l ks.length) = b) := ⟨_, Lib.hid rfl⟩
  rw [hgb.out] at HEG
  have HE := Lib.hid HEG
  have HKM := Lib.hid (And.intro hk (And.intro hm ht))
  clear HEG hk hm ht
  go_wp2_with fail
  clear f0
  refine HE.out.mono ?_
  rintro e w1 ⟨rfl, hb⟩
  have HB1 : Hid (Below w.heap.size w w1) := Lib.hid (HB0.out.trans (hb.mono z0))
  have HX1 := Lib.hid (HX0.out.below hb HX0.out.lt)
  have z1 := HB1.out.size
  clear hb HB0 HX0 z0 HE
  cases gb
  · have HF : Hid (false = lgoodB ks msg tag l) := Lib.hid (by
      unfold lgoodB; have := hgb.out
      cases a : decide (l.length = ks.length)
      · simp
      · rw [a, Bool.true_and] at this; rw [this]; simp)
    go_wp2
    go_ret
    exact ⟨ret_bool HF.out, HB1.out⟩
  have hg2 := hgb.out
  simp only [Bool.and_eq_true, decide_eq_true_eq] at hg2
  have HG := Lib.hid hg2
  have HCH : Hid (∀ k, k < n2 → 0 ≤ (l.getD k (0, 0, 0, 0)).2.2.1 ∧ (l.getD k (0, 0, 0, 0)).2.2.1 ≤ 112) := Lib.hid fun k hk => (twGood_nums (lgoodsK_at HG.out.2 (by have := HG.out.1; have := HL2.out; omega))).2.2.1
  have HF : Hid ((lchalK l n2 == mixV (msg ++ ks ++ [tag] ++ comsT l)) = lgoodB ks msg tag l) := Lib.hid (by
    have hmv : mixV (msg ++ ks ++ [tag] ++ comsT l) = lchal ks msg tag l := by
      unfold mixV lchal; rw [if_pos (lmixB HKM.out.1 HKM.out.2.1 HKM.out.2.2 (lgoods_coms HG.out.1 HG.out.2))]
    have hl2 : n2 = ks.length := by have := HG.out.1; have := HL2.out; omega
    unfold lgoodB; rw [HKM.out.1, HKM.out.2.1, HKM.out.2.2, HG.out.2, HG.out.1, hmv, hl2, Bool.eq_iff_iff]; simp)
  clear hg2 hgb
  have f0 : w1.cell? ⟨w.heap.size, 0, none⟩ = some (.int .i64 tag) := HX1.out.cell 0
  go_wp2_with fail
  clear f0
  refine (i_linkSigning tag A n c ks A1 n1 c1 msg A2 n2 c2 l w1 ((H.out.below HB1.out).more z1) ((H1.out.below HB1.out).more z1) ((H2.out.below HB1.out).more z1) hn hn1 hn2).mono ?_
  rintro e w2 ⟨Ar, cr, rfl, hr, hb⟩
  have HB2 : Hid (Below w.heap.size w w2) := Lib.hid (HB1.out.trans (hb.mono z1))
  have hfi := i_fits_Twin Ar (n1 + n + 1 + 2 * n2) cr _ A2 n2 c2 l w2 hr ((H2.out.below HB2.out).more HB2.out.size) (by omega) hn2 HCH.out
  rw [HF.out] at hfi
  have HFI := Lib.hid hfi
  clear hfi hr hb HF HB1 HX1 z1
  go_wp2_with fail
  refine HFI.out.mono ?_
  rintro e w3 ⟨rfl, hb⟩
  have HB3 : Hid (Below w.heap.size w w3) := Lib.hid (HB2.out.trans (hb.mono HB2.out.size))
  clear hb
  go_wp2
  go_ret
  exact ⟨rfl, HB3.out⟩
end Go.Proofs.Ytdhakbpimbadgaa
