/- Chapter 16: slices.Concat over lists of ints, as the program calls it. -/
import Derived.Test.YtdhakbpimbadgaaSS
import Derived.Test.YtdhakbpimbadgaaOwnGe
import Derived.Lib.AppendZeros
namespace Go.Proofs.Ytdhakbpimbadgaa
open Go.RowKit
set_option maxRecDepth 100000

theorem own_cut0 {w : World} {base e g cap : Nat} {cs : Array Value} (h : w.heap[g]? = some (.cells cs e (0, 0))) (hb : base ≤ g) (hc : cap ≤ maxLen) (hs : cs.size = cap * 1) : w.ownsRow base e 1 (.slice (some ⟨g, 0, none⟩) 0 cap) 0 [] :=
  ⟨by simp, .inr ⟨g, cap, cs, rfl, hb, h, Nat.zero_le _, hc, hs, by simp⟩⟩
set_option maxHeartbeats 4000000 in
theorem i_GrowNil (n : Nat) (w : World) (hn : n ≤ 8388608) :
    Calls Try.prog 115 #[.slice none 0 0, .int .i64 n] w fun e w' => ∃ v, e = .returned v ∧ w'.ownsRow w.heap.size 3 1 v 0 [] ∧ Below w.heap.size w w' := by
  obtain ⟨i, hi, hz0, hz1, hz2⟩ := info_parts info_int
  by_cases h0 : n = 0
  · subst h0
    go_enter Try.func115, Try.ntmps115
    go_wp2
    go_ret
    exact ⟨_, rfl, ⟨by simp, .inl ⟨rfl, rfl⟩⟩, Below.refl _ _⟩
  · have n0 : 0 < n := by omega
    have n1 : ¬ (n : Int) < 0 := by omega
    have n2 : (0 : Int) < (n : Int) := by omega
    have hrun := fun ty => Lib.run_append_nil_zeros (P := Try.prog) w 22 3 ty 3 i (.int .i64 0) .i64 .i64 Try.underlying22 Try.underlying3 hi hz0 n n0 (by rw [hz1]; decide) (by omega) (by rw [hz2]; omega)
    obtain ⟨cap, hcap⟩ : ∃ cap, Hid (grownCap w n 0 3 = cap) := ⟨_, Lib.hid rfl⟩
    have hge : n ≤ cap := by rw [← hcap.out]; exact grownCap_ge _ _ _ _
    have hle : cap ≤ maxLen := by rw [← hcap.out]; exact grownCap_le_maxLen _ _ _ _ (by unfold maxLen; omega)
    rw [hcap.out] at hrun
    obtain ⟨cs, hcs⟩ : ∃ cs, Hid ((Builtin.zeroCells (Value.int .i64 0).cells n ++ Builtin.zeroCells (Value.int .i64 0).cells (cap - n)) = cs) := ⟨_, Lib.hid rfl⟩
    have hsz : cs.size = cap * 1 := by rw [← hcs.out]; simp [Builtin.zeroCells, Value.cells]; omega
    rw [hcs.out] at hrun
    have HR := Lib.hid hrun
    have HLE := Lib.hid hle
    have HSZ := Lib.hid hsz
    clear hrun hle hsz hcs hcap h0
    unfold maxLen at HLE
    have c63 : (cap : Int) ≤ 9223372036854775807 := by have := HLE.out; omega
    go_enter Try.func115, Try.ntmps115
    go_wp2_with (at_builtin
                 refine Lib.wpList_append_run _ rfl _ _ _ _ rfl _ _ rfl rfl _ _ (HR.out _) ?_)
    go_ret
    refine ⟨_, rfl, own_cut0 (cs := cs) (heap_alloc_new _ _) (Nat.le_refl _) (by have := HLE.out; unfold maxLen; omega) HSZ.out, ?_⟩
    exact (Below.drew (Below.refl _ _)).alloc (Nat.le_refl _) _

theorem flat_take (d : List (List Int)) (k : Nat) (h : k < d.length) : (d.take (k + 1)).flatten = (d.take k).flatten ++ d.getD k [] := by
  rw [List.take_succ_eq_append_getElem h, List.flatten_append]; simp [h]
theorem flat_len (d : List (List Int)) (k : Nat) : ((d.take k).flatten).length ≤ d.flatten.length := by
  have : d.flatten = (d.take k).flatten ++ (d.drop k).flatten := by rw [← List.flatten_append, List.take_append_drop]
  rw [this, List.length_append]; omega
set_option maxHeartbeats 8000000 in
theorem i_Concat (A : Option Addr) (m c : Nat) (vs : List Value) (d : List (List Int)) (w : World) (h : RdR w w.heap.size A m vs d) (hm : m ≤ 3) (hT : d.flatten.length ≤ 8388608) :
    Calls Try.prog 95 #[.slice A m c] w fun e w' => ∃ A' c', e = .returned (.slice A' d.flatten.length c') ∧ Ow w' w.heap.size w'.heap.size 3 1 A' d.flatten.length c' (cI d.flatten) ∧ Below w.heap.size w w' := by
  have H := Lib.hid h
  have HD : Hid (d.length = m) := Lib.hid h.2.1
  have HT := Lib.hid hT
  clear h hT
  go_enter Try.func95, Try.ntmps95
  go_wp2
  go_loop [3, 11] (fun s i => ∃ k t : Nat, k ≤ m ∧ s = .int .i64 t ∧ i = .int .i64 k ∧ t ≤ 8388608 ∧ Hid (t = ((d.take k).flatten).length)) (fun _ i => m - (intOf i).toNat)
  case atStart => exact ⟨0, 0, Nat.zero_le _, rfl, rfl, by omega, Lib.hid rfl⟩
  case round =>
    obtain ⟨k, t, hk, rfl, rfl, t1, HS⟩ := hrel
    by_cases hlt : k < m
    · obtain ⟨a, Ai, ni, ci, rfl, hab, hcell, hrd, hni, hli⟩ := H.out.row hlt
      have i0 : (0 : Int) ≤ (k : Int) := by omega
      have i1 : (k : Int) < (m : Int) := by omega
      have ht2 : t + ni = ((d.take (k + 1)).flatten).length := by rw [flat_take d k (by have := HD.out; omega), List.length_append, ← HS.out, hli]
      have hb := flat_len d (k + 1)
      have ht3 : t + ni ≤ 8388608 := by have := HT.out; omega
      have HS2 := Lib.hid ht2
      have e1 : ¬ ((t : Int) + (ni : Int)) < 0 := by omega
      clear HS hrd hli ht2 hb
      go_wp2
      go_round
      case rel => exact ⟨k + 1, t + ni, by omega, by go_num, by go_num, ht3, HS2⟩
      case measure => simp [intOf] <;> omega
    · go_wp2_with fail
      refine (i_GrowNil t w t1).mono ?_
      rintro e w1 ⟨v1, rfl, ho, hb⟩
      have HO := Lib.hid ho
      have HB := Lib.hid hb
      clear ho hb
      go_wp2
      go_loopw [6, 27] (fun s i wr => ∃ (k t : Nat) (tv : Value), k ≤ m ∧ tv = s ∧ i = .int .i64 k ∧ t ≤ 8388608 ∧ Hid (t = ((d.take k).flatten).length) ∧ Hid (wr.ownsRow w.heap.size 3 1 tv t (cI ((d.take k).flatten))) ∧ Hid (Below w.heap.size w wr)) (fun _ i _ => m - (intOf i).toNat)
      case atStart => exact ⟨0, 0, _, Nat.zero_le _, rfl, rfl, by omega, Lib.hid rfl, HO, HB⟩
      case round =>
        clear HO HB HS
        obtain ⟨k, t, tv, hk, rfl, rfl, t1, HS, HO, HB⟩ := hrel
        by_cases hlt : k < m
        · obtain ⟨a, Ai, ni, ci, rfl, hab, hcell, hrd, hni, hli⟩ := H.out.row hlt
          have hc2 := (HB.out.cell (p := a.add k) (by rw [add_block]; exact hab)).trans hcell
          have i0 : (0 : Int) ≤ (k : Int) := by omega
          have i1 : (k : Int) < (m : Int) := by omega
          have ht2 : t + ni = ((d.take (k + 1)).flatten).length := by rw [flat_take d k (by have := HD.out; omega), List.length_append, ← HS.out, hli]
          have hb := flat_len d (k + 1)
          have ht3 : t + ni ≤ 8388608 := by have := HT.out; omega
          have HS2 := Lib.hid ht2
          have HFT := Lib.hid (flat_take d k (by have := HD.out; omega))
          have HRI : Hid (Rd wr w.heap.size 1 Ai ni (cI (d.getD k []))) := Lib.hid (by obtain ⟨A', n', c', e, _, r⟩ := hrd; injection e with e1 e2 e3; subst e1 e2 e3; exact r.below HB.out)
          clear HS hrd hli ht2 hb hcell
          go_wp2_with (at_builtin
                       refine wpList_append_rd rfl (.tmp 31) (.tmp 32) _ rfl w.heap.size 3 _ 1 8 Try.underlying22 info_int rfl (by decide) tv t (cI ((d.take k).flatten)) rfl HO.out _ _ ni _ (cI (d.getD k [])) rfl HRI.out (cI_one _) (by unfold maxLen; omega) (by omega) HB.out.size ?_
                       intro v5 w5 hown hgr hat
                       have HO5 : Hid (w5.ownsRow w.heap.size 3 1 v5 (t + ni) (cI ((d.take (k + 1)).flatten))) := Lib.hid (by rw [HFT.out, cI_app]; exact hown)
                       have HB5 : Hid (Below w.heap.size w w5) := Lib.hid (below_grown HB.out hgr (fun g e => own_ge HO.out e) HB.out.size)
                       clear hown hgr hat HO HB HRI hc2)
          go_roundw
          case rel => exact ⟨k + 1, t + ni, v5, by omega, rfl, by go_num, ht3, HS2, HO5, HB5⟩
          case measure => simp [intOf] <;> omega
        · have hkm : k = d.length := by have := HD.out; omega
          have HF : Hid (t = d.flatten.length) := Lib.hid (by rw [HS.out, hkm, List.take_length])
          have HO2 : Hid (wr.ownsRow w.heap.size 3 1 tv d.flatten.length (cI d.flatten)) := Lib.hid (by have := HO.out; rw [hkm, List.take_length, HF.out] at this; exact this)
          clear HS HO hkm HF
          obtain ⟨A5, c5, hv, ho⟩ := Ow.of_own HO2.out
          subst hv
          have HO3 := Lib.hid ho
          clear ho HO2
          go_wp2
          go_ret
          exact ⟨A5, c5, rfl, HO3.out, HB.out⟩
end Go.Proofs.Ytdhakbpimbadgaa
