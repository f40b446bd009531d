/- Chapter 16: RingGood of the program. -/
import Derived.Test.YtdhakbpimbadgaaWalk16d
import Derived.Test.YtdhakbpimbadgaaWalk15d
namespace Go.Proofs.Ytdhakbpimbadgaa
open Go.RowKit
set_option maxRecDepth 100000

theorem goods_coms {ks : List Int} {l : List Pf} (h : goodsB ks l = true) : mixB (comsP l) = true := by
  obtain ⟨hl, hg⟩ := goodsB_len h
  unfold mixB
  rw [List.all_eq_true]
  intro v hv
  obtain ⟨p, hp, rfl⟩ := List.mem_map.1 hv
  obtain ⟨k, hk, rfl⟩ := List.getElem_of_mem hp
  have := (pfGood_nums (goodsK_at hg (by omega : k < ks.length))).1
  rw [List.getD_eq_getElem?_getD, List.getElem?_eq_getElem hk] at this
  simp only [Option.getD_some] at this
  simp only [decide_eq_true_eq]; omega
theorem egood_any (ks : List Int) (a b : Int) (l : List Pf) (h : keysB ks = true → mixB (comsP l) = true → a = b) : egoodB ks a l = egoodB ks b l := by
  unfold egoodB
  cases hk : keysB ks
  · rfl
  cases hg : goodsB ks l
  · simp
  · rw [h hk (goods_coms hg)]
theorem rgood_mix {ks msg : List Int} (l : List Pf) (h : msgB msg = true) : egoodB ks (mixV (msg ++ ks ++ comsP l)) l = rgoodB ks msg l := by
  unfold rgoodB; rw [h, Bool.true_and]
  refine egood_any _ _ _ _ fun hk hc => ?_
  have h1 : mixB msg = true := mixB_nums (by simp only [msgB, Bool.and_eq_true] at h; exact h.2)
  have h2 : mixB ks = true := mixB_els (by simp only [keysB, Bool.and_eq_true] at hk; exact hk.2)
  unfold mixV rchal
  rw [if_pos (by rw [mixB_append, mixB_append, h1, h2, hc]; rfl)]
theorem Bx.rdV {w : World} {b e n : Nat} {cs : Array Value} {vs : List Value} (h : Bx w b cs e) (hz : cs.toList = vs) (hn : vs.length = n * 1) : Rd w w.heap.size 1 (some ⟨b, 0, none⟩) n vs := by
  refine ⟨hn, fun _ => ⟨_, rfl, h.lt, fun j u hj => ?_⟩⟩
  rw [add_zero_head, h.cell j, ← hj, ← hz, Array.getElem?_toList]

set_option maxHeartbeats 1000000 in
theorem i_messageOk (A : Option Addr) (n c : Nat) (zs : List Int) (w : World) (h : Rd w w.heap.size 1 A n (cI zs)) (hn : n ≤ 1048576) :
    Calls Try.prog 51 #[.slice A n c] w fun e w' => e = .returned (.bool (msgB zs)) ∧ w = w' := by
  have HL := Lib.hid h.len
  have H := Lib.hid h
  clear h
  by_cases h1 : n ≤ 8
  · have i1 : (n : Int) ≤ 8 := by omega
    have HF : Hid (numsB zs = msgB zs) := Lib.hid (by unfold msgB; rw [HL.out, decide_eq_true h1]; rfl)
    go_enter Try.func51, Try.ntmps51
    go_wp2_with fail
    refine (i_numbersOk _ _ _ _ _ H.out hn).mono ?_
    rintro e w' ⟨rfl, rfl⟩
    go_wp2
    go_ret
    exact ⟨ret_bool HF.out, rfl⟩
  · have i1 : ¬ (n : Int) ≤ 8 := by omega
    have HF : Hid (false = msgB zs) := Lib.hid (by unfold msgB; rw [HL.out, decide_eq_false h1]; rfl)
    go_enter Try.func51, Try.ntmps51
    go_wp2
    go_ret
    exact ⟨ret_bool HF.out, rfl⟩
set_option maxHeartbeats 1000000 in
theorem i_mixChal (A : Option Addr) (n c : Nat) (zs : List Int) (w : World) (h : Rd w w.heap.size 1 A n (cI zs)) (hn : n ≤ 8388608) :
    Calls Try.prog 53 #[.slice A n c] w fun e w' => e = .returned (.int .i64 (mixV zs)) ∧ w = w' := by
  have H := Lib.hid h
  clear h
  go_enter Try.func53, Try.ntmps53
  go_wp2_with fail
  refine (i_Mix A n c zs w H.out hn).mono ?_
  rintro e w' ⟨rfl, rfl⟩
  go_wp2
  go_ret
  exact ⟨rfl, rfl⟩
theorem field_sigP (y z : Value) (W : World) : (Instr.field 72 (.agg #[y, z]) 0).run Try.prog W = .ok y W := by kernel_rfl

set_option maxHeartbeats 4000000 in
theorem i_ringSigning (A : Option Addr) (n c : Nat) (ks : List Int) (A1 : Option Addr) (n1 c1 : Nat) (msg : List Int) (A2 : Option Addr) (n2 c2 : Nat) (l : List Pf) (w : World) (h : Rd w w.heap.size 1 A n (cI ks)) (h1 : Rd w w.heap.size 1 A1 n1 (cI msg)) (h2 : Rd w w.heap.size 3 A2 n2 (cProof l)) (hn : n ≤ 1048576) (hn1 : n1 ≤ 1048576) (hn2 : n2 ≤ 1048576) :
    Calls Try.prog 52 #[.slice A n c, .slice A1 n1 c1, .slice A2 n2 c2] w fun e w' => ∃ Ar cr, e = .returned (.agg #[.slice Ar (n1 + n + n2) cr, .slice A2 n2 c2]) ∧ Rd w' w'.heap.size 1 Ar (n1 + n + n2) (cI (msg ++ ks ++ comsP l)) ∧ Below w.heap.size w w' := by
  have H := Lib.hid h
  have H1 := Lib.hid h1
  have H2 := Lib.hid h2
  have HL := Lib.hid h.len
  have HL1 := Lib.hid h1.len
  clear h h1 h2
  obtain ⟨W0, hW0⟩ : ∃ W, Hid ((w.alloc (.cells #[.slice none 0 0, .slice none 0 0] 72)).alloc (.cells #[.slice A1 n1 c1, .slice A n c] 22) = W) := ⟨_, Lib.hid rfl⟩
  have HB0 : Hid (Below w.heap.size w W0) := Lib.hid (by rw [← hW0.out]; exact ((Below.refl _ _).alloc (Nat.le_refl _) _).alloc (by simp only [World.size_alloc]; omega) _)
  have HR0 : Hid (Bx W0 w.heap.size #[.slice none 0 0, .slice none 0 0] 72) := Lib.hid (by rw [← hW0.out]; exact (Bx.new _ _ _).alloc _)
  have HS0 : Hid (Bx W0 (w.heap.size + 1) #[.slice A1 n1 c1, .slice A n c] 22) := Lib.hid (by rw [← hW0.out]; have := Bx.new (w.alloc (.cells #[.slice none 0 0, .slice none 0 0] 72)) #[.slice A1 n1 c1, .slice A n c] 22; simp only [World.size_alloc] at this; exact this)
  have z0 := HB0.out.size
  have HC : Hid (Calls Try.prog 95 #[.slice (some ⟨w.heap.size + 1, 0, none⟩) 2 2] W0 fun e w' => ∃ A' c', e = .returned (.slice A' (n1 + n) c') ∧ Ow w' W0.heap.size w'.heap.size 3 1 A' (n1 + n) c' (cI (msg ++ ks)) ∧ Below W0.heap.size W0 w') := Lib.hid (by
    have hfl : [msg, ks].flatten = msg ++ ks := by simp
    have hr : RdR W0 W0.heap.size (some ⟨w.heap.size + 1, 0, none⟩) 2 [.slice A1 n1 c1, .slice A n c] [msg, ks] := by
      refine ⟨HS0.out.rdV rfl rfl, rfl, fun i hi => ?_⟩
      match i, hi with
      | 0, _ => exact ⟨A1, n1, c1, rfl, by omega, (H1.out.below HB0.out).more z0⟩
      | 1, _ => exact ⟨A, n, c, rfl, by omega, (H.out.below HB0.out).more z0⟩
    have := i_Concat (some ⟨w.heap.size + 1, 0, none⟩) 2 2 _ _ W0 hr (by omega) (by rw [hfl, List.length_append, HL.out, HL1.out]; omega)
    rw [hfl, List.length_append, HL.out, HL1.out] at this
    exact this)
  clear HS0
  go_enter Try.func52, Try.ntmps52
  go_wp2_with fail
  rw [hW0.out]
  clear hW0
  refine HC.out.mono ?_
  rintro e w1 ⟨A', c', rfl, ho, hb⟩
  have HO := Lib.hid ho
  have HB1 : Hid (Below w.heap.size w w1) := Lib.hid (HB0.out.trans (hb.mono z0))
  have HR1 := Lib.hid (HR0.out.below hb HR0.out.lt)
  have z1 := HB1.out.size
  clear ho hb HC HB0 HR0 z0
  go_wp2_with fail
  refine (i_signing_Proof A' (n1 + n) c' (msg ++ ks) A2 n2 c2 l w1 (HO.out.rd.more (Nat.le_refl _)) ((H2.out.below HB1.out).more z1) (by omega) hn2).mono ?_
  rintro e w2 ⟨Ar, cr, rfl, hr, hb⟩
  have HO2 := Lib.hid hr
  have zb := HR1.out.lt
  have HB2 : Hid (Below w.heap.size w w2) := Lib.hid (HB1.out.trans (hb.mono z1))
  have HR2 := Lib.hid (HR1.out.below hb HR1.out.lt)
  clear hr hb HB1 HR1 z1 HO
  have r0 : w2.cell? ⟨w.heap.size, 0, none⟩ = some (.slice none 0 0) := HR2.out.cell 0
  have r1 : w2.cell? ⟨w.heap.size, 1, none⟩ = some (.slice none 0 0) := HR2.out.cell 1
  have g0 : w2.frozen? ⟨w.heap.size, 0, none⟩ = false := HR2.out.free 0
  have g1 : w2.frozen? ⟨w.heap.size, 1, none⟩ = false := HR2.out.free 1
  go_wp2
  have hk2 := st14_2 w2 w.heap.size (.slice Ar (n1 + n + n2) cr) (.slice A2 n2 c2)
  have hz2 := HB2.out.size
  exact bodyPost_ret (v := .agg #[.slice Ar (n1 + n + n2) cr, .slice A2 n2 c2]) (resSigProof1 rfl rfl ((HR2.out.set 0 (.slice Ar (n1 + n + n2) cr)).set 1 (.slice A2 n2 c2))) rfl
    ⟨Ar, cr, rfl, ((HO2.out.kept hk2 (Nat.le_refl _) (.inl (by omega))).widen (Nat.le_refl _) hk2.size).rd, HB2.out.trans ((hk2.to_below (by have := HR2.out.lt; omega)).mono (Nat.le_refl _))⟩

set_option maxHeartbeats 4000000 in
theorem X_i_RingGood (v v1 v2 : Value) (ks msg : List Int) (l : List Pf) (w : World) (h : RdIntS w w.heap.size v ks) (h1 : RdIntS w w.heap.size v1 msg) (h2 : RdProofS w w.heap.size v2 l) (hs : szIntS ks ≤ 1048576) (hs1 : szIntS msg ≤ 1048576) (hs2 : szProofS l ≤ 1048576) :
    Calls Try.prog 31 #[v, v1, v2] w fun e w' => e = .returned (.bool (rgoodB ks msg l)) ∧ Below w.heap.size w w' := by
  have HE : ∀ W, Hid (Below w.heap.size w W → Calls Try.prog 27 #[v, .int .i64 (mixV (msg ++ ks ++ comsP l)), v2] W fun e w' => e = .returned (.bool (egoodB ks (mixV (msg ++ ks ++ comsP l)) l)) ∧ Below W.heap.size W w') := fun W => Lib.hid fun hb => X_i_EitherGood v v2 ks _ l W ((h.below hb).more hb.size) ((h2.below hb).more hb.size) hs hs2
  obtain ⟨A, n, c, rfl, _, h⟩ := h
  obtain ⟨A1, n1, c1, rfl, _, h1⟩ := h1
  obtain ⟨A2, n2, c2, rfl, _, h2⟩ := h2
  have HL := Lib.hid h.len
  have HL1 := Lib.hid h1.len
  have HL2 := Lib.hid h2.Prooflen
  have hn : n ≤ 1048576 := by have := HL.out; unfold szIntS at hs; omega
  have hn1 : n1 ≤ 1048576 := by have := HL1.out; unfold szIntS at hs1; omega
  have hn2 : n2 ≤ 1048576 := by have := HL2.out; unfold szProofS at hs2; omega
  have H := Lib.hid h
  have H1 := Lib.hid h1
  have H2 := Lib.hid h2
  clear h h1 h2 hs hs1 hs2
  go_enter Try.func31, Try.ntmps31
  go_wp2_with fail
  refine (i_messageOk _ _ _ _ _ H1.out hn1).mono ?_
  rintro e w' ⟨rfl, rfl⟩
  cases hm : msgB msg
  · have HF : Hid (false = rgoodB ks msg l) := Lib.hid (by unfold rgoodB; rw [hm]; rfl)
    go_wp2
    go_ret
    exact ⟨ret_bool HF.out, Below.refl _ _⟩
  have HF := Lib.hid (rgood_mix (ks := ks) l hm)
  clear hm
  go_wp2_with fail
  refine (i_ringSigning A n c ks A1 n1 c1 msg A2 n2 c2 l w H.out H1.out H2.out hn hn1 hn2).mono ?_
  rintro e w1 ⟨Ar, cr, rfl, hr, hb⟩
  have HR := Lib.hid hr
  have HB := Lib.hid hb
  clear hr hb
  go_wp2_with fail
  rw [field_sigP]
  go_wp2_with fail
  refine (i_mixChal Ar (n1 + n + n2) cr _ w1 HR.out (by omega)).mono ?_
  rintro e w' ⟨rfl, rfl⟩
  have HE1 := Lib.hid ((HE w1).out HB.out)
  rw [HF.out] at HE1
  clear HR HE HF
  generalize mixV (msg ++ ks ++ comsP l) = ch at *
  go_wp2_with fail
  refine HE1.out.mono ?_
  rintro e w2 ⟨rfl, hb⟩
  have HB2 : Hid (Below w.heap.size w w2) := Lib.hid (HB.out.trans (hb.mono HB.out.size))
  clear hb
  go_wp2
  go_ret
  exact ⟨rfl, HB2.out⟩
end Go.Proofs.Ytdhakbpimbadgaa
