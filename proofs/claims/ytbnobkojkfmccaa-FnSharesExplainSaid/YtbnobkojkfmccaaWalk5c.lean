/- Chapter 4: SharesExplain as the laws meet it. -/
import Derived.Test.YtbnobkojkfmccaaWalk5b
namespace Go.Proofs.Ytbnobkojkfmccaa
open Go.RowKit
set_option maxRecDepth 100000

theorem set_same0 (l : List Int) (k : Nat) (hk : k < l.length) (h : l.getD k 0 = 0) : l.set k 0 = l := by
  apply List.ext_getElem?
  intro i
  rw [List.getElem?_set]
  by_cases hc : k = i
  · subst hc
    rw [if_pos rfl, if_pos hk]
    rw [getD_of _ _ hk] at h
    rw [List.getElem?_eq_getElem hk, h]
  · rw [if_neg hc]
theorem fill_zero {zs : List Int} {n k : Nat} (hz : zs.length = n) (hk : k < n) (h0 : zs.getD k 0 = 0) : zs.take k ++ List.replicate (n - k) 0 = zs.take (k + 1) ++ List.replicate (n - (k + 1)) 0 := by
  rw [← copy_step hz hk, h0]
  refine (set_same0 _ _ (by simp; omega) ?_).symm
  have hl : (zs.take k).length = k := by simp; omega
  simp [hl, show 0 < n - k by omega]

set_option maxHeartbeats 2000000 in
theorem X_s_SharesExplain (v : Value) (s : Int) (d : List (Int × Int)) (w : World) (h : RdPointS w w.heap.size v d) (hs : szPointS d ≤ 1048576) :
    Calls Try.prog 40 #[.int .i64 s, v] w fun e w' => ∃ g, e = .returned (.tuple #[g, .bool (R_SharesExplain_1 s d)]) ∧ OwIntS w' w.heap.size w'.heap.size g (R_SharesExplain_0 s d) ∧ Below w.heap.size w w' := by
  obtain ⟨A, n, c, rfl, hm, r⟩ := h
  have hn : n ≤ 1048576 := by have := r.plen; unfold szPointS at hs; omega
  have hl := Lib.hid r.plen
  have H := Lib.hid r
  clear r hs hm
  have no : expB s d = false → Hid (R_SharesExplain_1 s d = false ∧ R_SharesExplain_0 s d = []) := fun h => Lib.hid ⟨h, by unfold R_SharesExplain_0; rw [h]; rfl⟩
  cases hs : numB s
  · have HF := no (by simp [expB, hs])
    clear no
    go_enter Try.func40, Try.ntmps40
    go_wp2_with fail
    refine (s_NumOk _ _).mono ?_
    rintro e w1 ⟨rfl, rfl⟩
    rw [hs]
    go_wp2
    go_ret2
    refine ⟨_, ret_vb HF.out.1.symm, ?_, Below.refl _ _⟩
    rw [HF.out.2]; exact OwIntS.nil_ _ _ _
  · by_cases h6 : n ≤ 6
    · have t6 : decide ((6 : Int) < (n : Int)) = false := decide_eq_false (by omega)
      cases hp : ptsB d
      · have HF := no (by simp [expB, shB, hp])
        clear no
        go_enter Try.func40, Try.ntmps40
        go_wp2_with fail
        refine (s_NumOk _ _).mono ?_
        rintro e w1 ⟨rfl, rfl⟩
        rw [hs]
        go_wp2_with fail
        refine (s_l2Points _ _ _ _ _ H.out hn).mono ?_
        rintro e w1 ⟨rfl, hb⟩
        have HB : Hid (Below w.heap.size w w1) := Lib.hid (hb.below _)
        clear hb
        rw [hp]
        go_wp2
        go_ret2
        refine ⟨_, ret_vb HF.out.1.symm, ?_, HB.out⟩
        rw [HF.out.2]; exact OwIntS.nil_ _ _ _
      · have HE : Hid (expB s d = xsK d 7 n) := Lib.hid (by unfold expB shB; rw [hs, hp, hl.out, decide_eq_true h6]; rfl)
        have HS0 := Lib.hid hs
        have HP0 := Lib.hid hp
        have HNO := Lib.hid no
        go_enter Try.func40, Try.ntmps40
        go_wp2_with fail
        refine (s_NumOk _ _).mono ?_
        rintro e w1 ⟨rfl, rfl⟩
        rw [hs]
        go_wp2_with fail
        refine (s_l2Points _ _ _ _ _ H.out hn).mono ?_
        rintro e w1 ⟨rfl, hb⟩
        have HS := Lib.hid hb
        clear hb no
        rw [hp]
        go_wp2
        clear hs hp
        go_loop [6] (fun i => ∃ k : Nat, k ≤ n ∧ i = .int .i64 k ∧ Hid (xsK d 7 k = true)) (fun i => n - (intOf i).toNat)
        case atStart => exact ⟨0, Nat.zero_le _, rfl, Lib.hid rfl⟩
        case round =>
          obtain ⟨k, hk, rfl, HK⟩ := hrel
          by_cases hlt : k < n
          · obtain ⟨a, x, y, rfl, hab, hx0, _, HP⟩ := H.out.ptAt hlt
            have hx := (HS.out.cell (a.add (k * 2))).trans hx0
            have HXY : Hid (px d k = x) := Lib.hid (by unfold px; rw [HP.out])
            clear hx0
            have i0 : (0 : Int) ≤ (k : Int) := by omega
            have i1 : (k : Int) < (n : Int) := by omega
            by_cases hin : 1 ≤ x ∧ x ≤ 7
            · have HI := Lib.hid (inB_t hin)
              have HK2 : Hid (xsK d 7 (k + 1) = true) := Lib.hid (by
                rw [xsK, HK.out, HXY.out, decide_eq_true hin.1, decide_eq_true hin.2]; rfl)
              clear hin
              go_wp2_with fail
              refine (s_l6In _ _ _ _).mono ?_
              rintro e w2 ⟨rfl, rfl⟩
              rw [HI.out]
              go_wp2
              go_round
              case rel => exact ⟨k + 1, by omega, by go_num, HK2⟩
              case measure => simp [intOf] <;> omega
            · have HI := Lib.hid (inB_f hin)
              have HF := HNO.out (by
                rw [HE.out, xsK_bad (k := k) ?_ hlt]
                rw [xsK, HXY.out, HK.out, Bool.true_and, Bool.and_eq_false_iff]
                by_cases h1 : 1 ≤ x
                · exact .inr (decide_eq_false (fun h2 => hin ⟨h1, h2⟩))
                · exact .inl (decide_eq_false h1))
              clear hin
              go_wp2_with fail
              refine (s_l6In _ _ _ _).mono ?_
              rintro e w2 ⟨rfl, rfl⟩
              rw [HI.out]
              go_wp2
              go_ret2
              refine ⟨_, ret_vb HF.out.1.symm, ?_, HS.out.below _⟩
              rw [HF.out.2]; exact OwIntS.nil_ _ _ _
          · have HX : Hid (expB s d = true) := Lib.hid (by rw [HE.out, ← HK.out, show k = n by omega])
            have HF1 : Hid (R_SharesExplain_1 s d = true) := Lib.hid HX.out
            have HF2 : Hid (R_SharesExplain_0 s d = expL s d) := Lib.hid (by unfold R_SharesExplain_0; rw [if_pos HX.out])
            have hsh : shB d 7 = true := by unfold shB; rw [HP0.out, hl.out, ← HE.out, HX.out]; rfl
            have HG := Lib.hid (exp_good HS0.out hsh (by rw [hl.out]; exact h6))
            rw [hl.out] at HG
            have hz1 : w.heap.size ≤ w1.heap.size := (HS.out.below 0).size
            have HB1 : Hid (Below w.heap.size w w1) := Lib.hid (HS.out.below _)
            have HLIT := Lib.hid (lit_point w1 s)
            have HRD : Hid (Rd (w1.alloc (.cells #[.int .i64 0, .int .i64 s] 61)) (w1.alloc (.cells #[.int .i64 0, .int .i64 s] 61)).heap.size 2 A n (cP d)) := Lib.hid (((H.out.below HB1.out).below ((Below.refl _ _).alloc hz1 _)).more (by simp; omega))
            have hza : w1.heap.size ≤ (w1.alloc (.cells #[.int .i64 0, .int .i64 s] 61)).heap.size := by simp
            have hmk := fun W => run_make1 (P := Try.prog) Try.underlying27 info_int rfl n (by omega) (by omega) W
            clear hsh HNO
            go_wp2_with (at_builtin
                         refine wpList_append_rd rfl (.tmp 38) (.tmp 39) _ rfl w1.heap.size 61 _ 2 16 Try.underlying50 info_pt rfl (by decide) (.slice (some ⟨w1.heap.size, 0, none⟩) 1 1) 1 [.int .i64 0, .int .i64 s] rfl HLIT.out _ A n c (cP d) rfl HRD.out (cP_one d) (by unfold maxLen; omega) (by omega) hza ?_
                         intro v5 w5 hown hgr hat
                         obtain ⟨A5, c5, hv5, ho5⟩ := Ow.of_own hown
                         subst hv5
                         have HO5 : Hid (Ow w5 w1.heap.size w5.heap.size 61 2 A5 (1 + n) c5 (cP ((0, s) :: d))) := Lib.hid ho5
                         have HB5 : Hid (Below w1.heap.size w1 w5) := Lib.hid (below_grown ((Below.refl _ _).alloc (Nat.le_refl _) _) hgr (fun g e => by simp [Value.ownBlock] at e; omega) hza)
                         clear hown hgr hat ho5)
            refine (s_l2Through A5 (1 + n) c5 ((0, s) :: d) w5 HO5.out.rd (by omega) HG.out).mono ?_
            rintro e w6 ⟨g6, rfl, ho6, hb6⟩
            obtain ⟨hsm, At, nt, ct, rfl, hot⟩ := ho6
            have HOT := Lib.hid hot.rd
            have HTL := Lib.hid hot.len
            have hz5 := HB5.out.size
            have HB6 : Hid (Below w.heap.size w w6) := Lib.hid ((HB1.out.trans (HB5.out.mono hz1)).trans (hb6.mono (by omega)))
            have hnt : nt ≤ 1 + n := by rw [← hot.len]; exact thrS_len _ _ _ (Nat.le_refl _)
            have HEL : ∀ i, i < n → (expL s d).getD i 0 = (thrS ((0, s) :: d) (1 + n) (1 + n)).getD (i + 1) 0 := fun i hi => by
              have := expL_get s d i (by rw [hl.out]; exact hi)
              rwa [hl.out] at this
            have HEL := Lib.hid HEL
            have HEn : Hid ((expL s d).length = n) := Lib.hid (by rw [expL_length, hl.out])
            have HX0 : Hid (Ow (w6.alloc (.cells (Array.replicate n (.int .i64 0)) 3)) w6.heap.size (w6.heap.size + 1) 3 1 (some ⟨w6.heap.size, 0, none⟩) n n (cI ((expL s d).take 0 ++ List.replicate (n - 0) 0))) := Lib.hid (by
              have := Ow.zeros w6 (.int .i64 0) 3 n
              rw [cI_zeros] at this; exact this)
            have HBX : Hid (Below w6.heap.size w6 (w6.alloc (.cells (Array.replicate n (.int .i64 0)) 3))) := Lib.hid ((Below.refl _ _).alloc (Nat.le_refl _) _)
            clear hot hb6 hsm HLIT HRD hza HO5 HB5
            go_wp2
            clear hmk
            go_loopw [9] (fun i wr => ∃ k : Nat, k ≤ n ∧ i = .int .i64 k ∧ Hid (Ow wr w6.heap.size (w6.heap.size + 1) 3 1 (some ⟨w6.heap.size, 0, none⟩) n n (cI ((expL s d).take k ++ List.replicate (n - k) 0))) ∧ Hid (Below w6.heap.size w6 wr) ∧ Hid (w6.heap.size + 1 ≤ wr.heap.size)) (fun i _ => n - (intOf i).toNat)
            case atStart => exact ⟨0, Nat.zero_le _, rfl, HX0, HBX, Lib.hid (by simp)⟩
            case round =>
              clear HX0 HBX
              obtain ⟨j, hj, rfl, HX, HBX, HZX⟩ := hrel
              by_cases hltj : j < n
              · have j0 : (0 : Int) ≤ (j : Int) := by omega
                have j1 : (j : Int) < (n : Int) := by omega
                by_cases hin : j + 1 < nt
                · obtain ⟨ap, q, rfl, hap, hcq0, HQ⟩ := HOT.out.intAt hin
                  have hcq := (HBX.out.cell (p := ap.add (j + 1)) (by rw [add_block]; exact hap)).trans hcq0
                  obtain ⟨y, hcy, _⟩ := HX.out.intAt hltj
                  have hf := HX.out.free (by omega) j
                  have HX2 : Hid (Ow (wr.setCell ⟨w6.heap.size, j, none⟩ (.int .i64 q)) w6.heap.size (w6.heap.size + 1) 3 1 (some ⟨w6.heap.size, 0, none⟩) n n (cI ((expL s d).take (j + 1) ++ List.replicate (n - (j + 1)) 0))) := Lib.hid (by
                    have := HX.out.set j (.int .i64 q)
                    rw [cI_set] at this
                    rw [← copy_step HEn.out hltj, HEL.out j hltj, ← HQ.out]; exact this)
                  have HBX2 := Lib.hid (HBX.out.setCell (p := ⟨w6.heap.size, j, none⟩) (Nat.le_refl _) (.int .i64 q))
                  have HZX2 : Hid (w6.heap.size + 1 ≤ (wr.setCell ⟨w6.heap.size, j, none⟩ (.int .i64 q)).heap.size) := Lib.hid (by rw [World.size_setCell]; exact HZX.out)
                  clear HX HBX HZX hcq0 HQ
                  have j2 : (j : Int) + 1 < (nt : Int) := by omega
                  have j3 : (0 : Int) ≤ (j : Int) + 1 := by omega
                  have j4 : ((j : Int) + 1).toNat = j + 1 := by omega
                  rw [show ap.add (j + 1) = ⟨ap.block, ap.off + (j + 1), none⟩ by unfold Addr.add; simp] at hcq
                  go_wp2
                  go_roundw
                  case rel => exact ⟨j + 1, by omega, by go_num, HX2, HBX2, HZX2⟩
                  case measure => simp [intOf] <;> omega
                · have HX2 : Hid (Ow wr w6.heap.size (w6.heap.size + 1) 3 1 (some ⟨w6.heap.size, 0, none⟩) n n (cI ((expL s d).take (j + 1) ++ List.replicate (n - (j + 1)) 0))) := Lib.hid (by
                    rw [← fill_zero HEn.out hltj (by rw [HEL.out j hltj]; simp [List.getElem?_eq_none (show (thrS ((0, s) :: d) (1 + n) (1 + n)).length ≤ j + 1 by rw [HTL.out]; omega)])]
                    exact HX.out)
                  clear HX
                  have j2 : ¬ ((j : Int) + 1 < (nt : Int)) := by omega
                  go_wp2
                  go_roundw
                  case rel => exact ⟨j + 1, by omega, by go_num, HX2, HBX, HZX⟩
                  case measure => simp [intOf] <;> omega
              · obtain rfl : j = n := by omega
                have hz6 := HB6.out.size
                go_wp2
                go_ret2
                refine ⟨_, ret_vb HF1.out.symm, ?_, HB6.out.trans (HBX.out.mono hz6)⟩
                rw [HF2.out]
                have h1 := HX.out
                rw [Nat.sub_self, List.take_of_length_le (by rw [HEn.out]; exact Nat.le_refl _)] at h1
                refine ⟨by rw [HEn.out]; omega, _, _, _, rfl, ?_⟩
                have h2 : expL s d ++ List.replicate 0 (0 : Int) = expL s d := by simp
                rw [h2] at h1
                exact h1.widen hz6 HZX.out
    · have t6 : decide ((6 : Int) < (n : Int)) = true := decide_eq_true (by omega)
      have HF := no (by unfold expB; rw [decide_eq_false (by rw [hl.out]; exact h6)]; simp)
      clear no
      go_enter Try.func40, Try.ntmps40
      go_wp2_with fail
      refine (s_NumOk _ _).mono ?_
      rintro e w1 ⟨rfl, rfl⟩
      rw [hs]
      go_wp2
      go_ret2
      refine ⟨_, ret_vb HF.out.1.symm, ?_, Below.refl _ _⟩
      rw [HF.out.2]; exact OwIntS.nil_ _ _ _

end Go.Proofs.Ytbnobkojkfmccaa
