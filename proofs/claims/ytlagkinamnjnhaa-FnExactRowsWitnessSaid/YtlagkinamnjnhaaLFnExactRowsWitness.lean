/- FnExactRowsWitness answers true at every input: at each argument the function and its model answer alike, no argument is written, and the answer owns its memory. No condition. -/
import Derived.Test.YtlagkinamnjnhaaRows
import Derived.Test.YtlagkinamnjnhaaLaw
import Derived.Test.YtlagkinamnjnhaaDoor
import Derived.Test.YtlagkinamnjnhaaMFnExactRowsWitness
namespace Go.Proofs.Ytlagkinamnjnhaa.fnExactRowsWitness
open Go.ChangeShapes Go.WideShapes Go.ChangeAt Go.RowKit
theorem own : ownKnob Try.prog.godebug = none := by kernel_rfl
set_option maxRecDepth 100000 in
set_option maxHeartbeats 4000000 in
theorem walk (z_aC : Int) (A1_aC : Option Addr) (n1_aC c1_aC : Nat) (A2_aC : Option Addr) (n2_aC c2_aC : Nat) (d1_aC : List (Int × Int × Int)) (d2_aC : List Int) (A_aIns : Option Addr) (n_aIns c_aIns : Nat) (d_aIns : List Int) (w : World) (h1_aC : RdGateS w w.heap.size (.slice A1_aC n1_aC c1_aC) d1_aC) (h2_aC : RdIntS w w.heap.size (.slice A2_aC n2_aC c2_aC) d2_aC) (hm_aIns : n_aIns ≤ 9223372036854775807) (h_aIns : Rd w w.heap.size 1 A_aIns n_aIns (cI d_aIns)) :
    Calls Try.prog 4 #[.agg #[.int .i64 z_aC, .slice A1_aC n1_aC c1_aC, .slice A2_aC n2_aC c2_aC], .slice A_aIns n_aIns c_aIns] w fun e w' => e = .returned (.bool true) ∧ Below w.heap.size w w' := by
  by_cases hs_aIns : szIntS d_aIns ≤ 1048576
  · have hn_aIns : n_aIns ≤ 1048576 := by have := h_aIns.len; unfold szIntS at hs_aIns; omega
    obtain ⟨d_aC, hd_aC⟩ : ∃ d, d = (z_aC, d1_aC, d2_aC) := ⟨_, rfl⟩
    have Ha_aC : Hid (RdCircuit w w.heap.size (.agg #[.int .i64 z_aC, .slice A1_aC n1_aC c1_aC, .slice A2_aC n2_aC c2_aC]) d_aC) := Lib.hid (by rw [hd_aC]; exact ⟨_, _, _, _, _, _, rfl, h1_aC, h2_aC⟩)
    have Ha_aIns : Hid (RdIntS w w.heap.size (.slice A_aIns n_aIns c_aIns) d_aIns) := Lib.hid (⟨A_aIns, n_aIns, c_aIns, rfl, hm_aIns, h_aIns⟩)
    clear h1_aC h2_aC hd_aC h_aIns
    go_enter Try.func4, Try.ntmps4
    obtain ⟨W0, hW0⟩ : ∃ W, Hid ((w.alloc (.cells #[.int .i64 z_aC, .slice A1_aC n1_aC c1_aC, .slice A2_aC n2_aC c2_aC] 25)) = W) := ⟨_, Lib.hid rfl⟩
    have HB_0 : Hid (Below w.heap.size w W0) := Lib.hid (by rw [← hW0.out]; exact (Below.refl _ _).alloc (Nat.le_refl _) _)
    have z_0 : W0.heap.size = w.heap.size + 1 := by rw [← hW0.out]; simp only [World.size_alloc]
    have HX_aC : Hid (Bx W0 (w.heap.size) #[.int .i64 z_aC, .slice A1_aC n1_aC c1_aC, .slice A2_aC n2_aC c2_aC] 25) := Lib.hid (by rw [← hW0.out]; have := Bx.new w #[.int .i64 z_aC, .slice A1_aC n1_aC c1_aC, .slice A2_aC n2_aC c2_aC] 25; exact this)
    go_wp2_with fail
    rw [hW0.out]
    clear hW0
    rcases Int.lt_or_le 1048576 (szCircuit d_aC : Nat) with hl1 | hl1
    · refine (L_szCircuit_no _ _ _ _ _ (RdCircuit.below Ha_aC.out HB_0.out) (by omega) (by omega) (by omega) hl1).mono ?_
      rintro e w' ⟨rfl, hb⟩
      have hb2 := Lib.hid (HB_0.out.trans (hb.mono (by omega)))
      clear hb
      go_wp2
      go_ret
      exact ⟨rfl, hb2.out⟩
    refine (L_szCircuit_ok _ _ _ _ _ (RdCircuit.below Ha_aC.out HB_0.out) (by omega) (by omega) (by omega) hl1).mono ?_
    rintro e w2 ⟨L3, rfl, hx6, h0_4, h1_5, hy7⟩
    have hs_aC : szCircuit d_aC ≤ 1048576 := by omega
    have z8 : W0.heap.size ≤ w2.heap.size := hy7.size
    have HS9 := Lib.hid hy7
    clear hy7
    have HX10 := Lib.hid (HX_aC.out.below HS9.out HX_aC.out.lt)
    clear HX_aC
    have HB11 : Hid (Below w.heap.size w w2) := Lib.hid (HB_0.out.trans (HS9.out.mono (by omega)))
    clear HB_0
    clear HS9
    have fc17 : w2.cell? ⟨w.heap.size, 0, none⟩ = some (.int .i64 z_aC) := HX10.out.cell 0
    have fc18 : w2.cell? ⟨w.heap.size, 1, none⟩ = some (.slice A1_aC n1_aC c1_aC) := HX10.out.cell 1
    have fc19 : w2.cell? ⟨w.heap.size, 2, none⟩ = some (.slice A2_aC n2_aC c2_aC) := HX10.out.cell 2
    go_wp2_with fail
    refine (L_toCircuit _ _ _ _ (RdCircuit.below Ha_aC.out HB11.out) HB11.out.size hs_aC).mono ?_
    rintro e w13 ⟨v12, rfl, hx20, hy21⟩
    have z16 : w2.heap.size ≤ w13.heap.size := hy21.size
    obtain ⟨A1_v12, n1_v12, c1_v12, A2_v12, n2_v12, c2_v12, hv22⟩ : ∃ A1_v12 n1_v12 c1_v12 A2_v12 n2_v12 c2_v12, v12 = .agg #[.int .i64 (d_aC.1), .slice A1_v12 n1_v12 c1_v12, .slice A2_v12 n2_v12 c2_v12] := by obtain ⟨_, _, _, _, _, _, _, _, _, _, _, rfl, _⟩ := hx20; exact ⟨_, _, _, _, _, _, rfl⟩
    subst hv22
    have HO14 := Lib.hid hx20
    have HS15 := Lib.hid hy21
    clear hx20 hy21
    clear fc17 fc18 fc19
    have HX23 := Lib.hid (HX10.out.below HS15.out HX10.out.lt)
    clear HX10
    have HB24 : Hid (Below w.heap.size w w13) := Lib.hid (HB11.out.trans (HS15.out.mono (by omega)))
    clear HB11
    clear HS15
    have fc30 : w13.cell? ⟨w.heap.size, 0, none⟩ = some (.int .i64 z_aC) := HX23.out.cell 0
    have fc31 : w13.cell? ⟨w.heap.size, 1, none⟩ = some (.slice A1_aC n1_aC c1_aC) := HX23.out.cell 1
    have fc32 : w13.cell? ⟨w.heap.size, 2, none⟩ = some (.slice A2_aC n2_aC c2_aC) := HX23.out.cell 2
    go_wp2_with fail
    refine (L_toIntS _ _ _ _ (RdIntS.below Ha_aIns.out HB24.out) HB24.out.size hs_aIns).mono ?_
    rintro e w26 ⟨v25, rfl, hx33, hy34⟩
    have z29 : w13.heap.size ≤ w26.heap.size := hy34.size
    have HO27 := Lib.hid hx33
    have HS28 := Lib.hid hy34
    clear hx33 hy34
    clear fc30 fc31 fc32
    have HO35 := Lib.hid (HO14.out.below HS28.out (by omega))
    clear HO14
    have HX36 := Lib.hid (HX23.out.below HS28.out HX23.out.lt)
    clear HX23
    have HB37 : Hid (Below w.heap.size w w26) := Lib.hid (HB24.out.trans (HS28.out.mono (by omega)))
    clear HB24
    clear HS28
    have fc38 : w26.cell? ⟨w.heap.size, 0, none⟩ = some (.int .i64 z_aC) := HX36.out.cell 0
    have fc39 : w26.cell? ⟨w.heap.size, 1, none⟩ = some (.slice A1_aC n1_aC c1_aC) := HX36.out.cell 1
    have fc40 : w26.cell? ⟨w.heap.size, 2, none⟩ = some (.slice A2_aC n2_aC c2_aC) := HX36.out.cell 2
    go_wp2_with fail
    refine (X_s_RowsWitness _ _ d_aC d_aIns _ (HO35.out.rd.more (by omega)) (HO27.out.rd.more (by omega)) hs_aC hs_aIns).mono ?_
    rintro e w41 ⟨w0_w41, rfl, hx42, hy43⟩
    have z44 : w26.heap.size ≤ w41.heap.size := hy43.size
    have HO45 := Lib.hid hx42
    clear hx42
    have HS46 := Lib.hid hy43
    clear hy43
    clear fc38 fc39 fc40
    have HO47 := Lib.hid (HO35.out.below HS46.out (by omega))
    clear HO35
    have HO48 := Lib.hid (HO27.out.below HS46.out (by omega))
    clear HO27
    have HX49 := Lib.hid (HX36.out.below HS46.out HX36.out.lt)
    clear HX36
    have HB50 : Hid (Below w.heap.size w w41) := Lib.hid (HB37.out.trans (HS46.out.mono (by omega)))
    clear HB37
    clear HS46
    clear HO47
    clear HO48
    have fc56 : w41.cell? ⟨w.heap.size, 0, none⟩ = some (.int .i64 z_aC) := HX49.out.cell 0
    have fc57 : w41.cell? ⟨w.heap.size, 1, none⟩ = some (.slice A1_aC n1_aC c1_aC) := HX49.out.cell 1
    have fc58 : w41.cell? ⟨w.heap.size, 2, none⟩ = some (.slice A2_aC n2_aC c2_aC) := HX49.out.cell 2
    go_wp2_with fail
    refine (L_toCircuit _ _ _ _ (RdCircuit.below Ha_aC.out HB50.out) HB50.out.size hs_aC).mono ?_
    rintro e w52 ⟨v51, rfl, hx59, hy60⟩
    have z55 : w41.heap.size ≤ w52.heap.size := hy60.size
    obtain ⟨A1_v51, n1_v51, c1_v51, A2_v51, n2_v51, c2_v51, hv61⟩ : ∃ A1_v51 n1_v51 c1_v51 A2_v51 n2_v51 c2_v51, v51 = .agg #[.int .i64 (d_aC.1), .slice A1_v51 n1_v51 c1_v51, .slice A2_v51 n2_v51 c2_v51] := by obtain ⟨_, _, _, _, _, _, _, _, _, _, _, rfl, _⟩ := hx59; exact ⟨_, _, _, _, _, _, rfl⟩
    subst hv61
    have HO53 := Lib.hid hx59
    have HS54 := Lib.hid hy60
    clear hx59 hy60
    clear fc56 fc57 fc58
    have HO62 := Lib.hid (HO45.out.below HS54.out (by omega))
    clear HO45
    have HX63 := Lib.hid (HX49.out.below HS54.out HX49.out.lt)
    clear HX49
    have HB64 : Hid (Below w.heap.size w w52) := Lib.hid (HB50.out.trans (HS54.out.mono (by omega)))
    clear HB50
    clear HS54
    have fc70 : (w52.alloc (.cells #[.int .i64 (d_aC.1), .slice A1_v51 n1_v51 c1_v51, .slice A2_v51 n2_v51 c2_v51] 32)).cell? ⟨w.heap.size, 0, none⟩ = some (.int .i64 z_aC) := (HX63.out.alloc _).cell 0
    have fc71 : (w52.alloc (.cells #[.int .i64 (d_aC.1), .slice A1_v51 n1_v51 c1_v51, .slice A2_v51 n2_v51 c2_v51] 32)).cell? ⟨w.heap.size, 1, none⟩ = some (.slice A1_aC n1_aC c1_aC) := (HX63.out.alloc _).cell 1
    have fc72 : (w52.alloc (.cells #[.int .i64 (d_aC.1), .slice A1_v51 n1_v51 c1_v51, .slice A2_v51 n2_v51 c2_v51] 32)).cell? ⟨w.heap.size, 2, none⟩ = some (.slice A2_aC n2_aC c2_aC) := (HX63.out.alloc _).cell 2
    go_wp2_with fail
    clear fc70 fc71 fc72
    obtain ⟨w73, hW74⟩ : ∃ W, Hid (w52.alloc (.cells #[.int .i64 (d_aC.1), .slice A1_v51 n1_v51 c1_v51, .slice A2_v51 n2_v51 c2_v51] 32) = W) := ⟨_, Lib.hid rfl⟩
    have z75 : w73.heap.size = w52.heap.size + 1 := by rw [← hW74.out, World.size_alloc]
    have HS76 : Hid (Below w52.heap.size w52 w73) := Lib.hid (by rw [← hW74.out]; exact (Below.refl _ _).alloc (Nat.le_refl _) _)
    have HX77 : Hid (Bx w73 w52.heap.size #[.int .i64 (d_aC.1), .slice A1_v51 n1_v51 c1_v51, .slice A2_v51 n2_v51 c2_v51] 32) := Lib.hid (by rw [← hW74.out]; exact Bx.new _ _ _)
    have HO78 := Lib.hid (HO62.out.below HS76.out (by omega))
    clear HO62
    have HO79 := Lib.hid (HO53.out.below HS76.out (by omega))
    clear HO53
    have HX80 := Lib.hid (HX63.out.below HS76.out HX63.out.lt)
    clear HX63
    have HB81 : Hid (Below w.heap.size w w73) := Lib.hid (HB64.out.trans (HS76.out.mono (by omega)))
    clear HB64
    clear HS76
    rw [hW74.out]
    clear hW74
    refine (L_toIntS _ _ _ _ (RdIntS.below Ha_aIns.out HB81.out) HB81.out.size hs_aIns).mono ?_
    rintro e w66 ⟨v65, rfl, hx82, hy83⟩
    have z69 : w73.heap.size ≤ w66.heap.size := hy83.size
    have HO67 := Lib.hid hx82
    have HS68 := Lib.hid hy83
    clear hx82 hy83
    have HO84 := Lib.hid (HO78.out.below HS68.out (by omega))
    clear HO78
    have HO85 := Lib.hid (HO79.out.below HS68.out (by omega))
    clear HO79
    have HX86 := Lib.hid (HX80.out.below HS68.out HX80.out.lt)
    clear HX80
    have HX87 := Lib.hid (HX77.out.below HS68.out HX77.out.lt)
    clear HX77
    have HB88 : Hid (Below w.heap.size w w66) := Lib.hid (HB81.out.trans (HS68.out.mono (by omega)))
    clear HB81
    clear HS68
    have fc89 : w66.cell? ⟨w.heap.size, 0, none⟩ = some (.int .i64 z_aC) := HX86.out.cell 0
    have fc90 : w66.cell? ⟨w.heap.size, 1, none⟩ = some (.slice A1_aC n1_aC c1_aC) := HX86.out.cell 1
    have fc91 : w66.cell? ⟨w.heap.size, 2, none⟩ = some (.slice A2_aC n2_aC c2_aC) := HX86.out.cell 2
    have fc92 : w66.cell? ⟨w52.heap.size, 0, none⟩ = some (.int .i64 (d_aC.1)) := HX87.out.cell 0
    have fc93 : w66.cell? ⟨w52.heap.size, 1, none⟩ = some (.slice A1_v51 n1_v51 c1_v51) := HX87.out.cell 1
    have fc94 : w66.cell? ⟨w52.heap.size, 2, none⟩ = some (.slice A2_v51 n2_v51 c2_v51) := HX87.out.cell 2
    go_wp2_with fail
    refine (X_i_RowsWitness _ _ d_aC d_aIns _ (HO85.out.rd.more (by omega)) (HO67.out.rd.more (by omega)) hs_aC hs_aIns).mono ?_
    rintro e w95 ⟨g0_w95, rfl, hx96, hy97⟩
    have z98 : w66.heap.size ≤ w95.heap.size := hy97.size
    have HO99 := Lib.hid hx96
    clear hx96
    have HS100 := Lib.hid hy97
    clear hy97
    clear fc89 fc90 fc91 fc92 fc93 fc94
    have HO101 := Lib.hid (HO84.out.below HS100.out (by omega))
    clear HO84
    have HO102 := Lib.hid (HO85.out.below HS100.out (by omega))
    clear HO85
    have HO103 := Lib.hid (HO67.out.below HS100.out (by omega))
    clear HO67
    have HX104 := Lib.hid (HX86.out.below HS100.out HX86.out.lt)
    clear HX86
    have HX105 := Lib.hid (HX87.out.below HS100.out HX87.out.lt)
    clear HX87
    have HB106 : Hid (Below w.heap.size w w95) := Lib.hid (HB88.out.trans (HS100.out.mono (by omega)))
    clear HB88
    clear HS100
    have fc109 : w95.cell? ⟨w.heap.size, 0, none⟩ = some (.int .i64 z_aC) := HX104.out.cell 0
    have fc110 : w95.cell? ⟨w.heap.size, 1, none⟩ = some (.slice A1_aC n1_aC c1_aC) := HX104.out.cell 1
    have fc111 : w95.cell? ⟨w.heap.size, 2, none⟩ = some (.slice A2_aC n2_aC c2_aC) := HX104.out.cell 2
    have fc112 : w95.cell? ⟨w52.heap.size, 0, none⟩ = some (.int .i64 (d_aC.1)) := HX105.out.cell 0
    have fc113 : w95.cell? ⟨w52.heap.size, 1, none⟩ = some (.slice A1_v51 n1_v51 c1_v51) := HX105.out.cell 1
    have fc114 : w95.cell? ⟨w52.heap.size, 2, none⟩ = some (.slice A2_v51 n2_v51 c2_v51) := HX105.out.cell 2
    go_wp2_with fail
    refine (L_eqIntS _ _ _ _ _ _ HO99.out.rd HO101.out.rd (by omega) (by omega) HO99.out.small).mono ?_
    rintro e w107 ⟨rfl, hx108⟩
    have z115 : w95.heap.size ≤ w107.heap.size := hx108.size
    have HS116 := Lib.hid hx108
    clear hx108
    clear fc109 fc110 fc111 fc112 fc113 fc114
    have HO117 := Lib.hid (HO101.out.below HS116.out (by omega))
    clear HO101
    have HO118 := Lib.hid (HO102.out.below HS116.out (by omega))
    clear HO102
    have HO119 := Lib.hid (HO103.out.below HS116.out (by omega))
    clear HO103
    have HO120 := Lib.hid (HO99.out.below HS116.out (by omega))
    clear HO99
    have HX121 := Lib.hid (HX104.out.below HS116.out HX104.out.lt)
    clear HX104
    have HX122 := Lib.hid (HX105.out.below HS116.out HX105.out.lt)
    clear HX105
    have HB123 : Hid (Below w.heap.size w w107) := Lib.hid (HB106.out.trans (HS116.out.mono (by omega)))
    clear HB106
    clear HS116
    have hq_aC_0 : w107.cell? ⟨w.heap.size, 0, none⟩ = some (.int .i64 z_aC) := HX121.out.cell 0
    have hq_aC_1 : w107.cell? ⟨w.heap.size, 1, none⟩ = some (.slice A1_aC n1_aC c1_aC) := HX121.out.cell 1
    have hq_aC_2 : w107.cell? ⟨w.heap.size, 2, none⟩ = some (.slice A2_aC n2_aC c2_aC) := HX121.out.cell 2
    have hq_x0_0 : w107.cell? ⟨w52.heap.size, 0, none⟩ = some (.int .i64 (d_aC.1)) := HX122.out.cell 0
    have hq_x0_1 : w107.cell? ⟨w52.heap.size, 1, none⟩ = some (.slice A1_v51 n1_v51 c1_v51) := HX122.out.cell 1
    have hq_x0_2 : w107.cell? ⟨w52.heap.size, 2, none⟩ = some (.slice A2_v51 n2_v51 c2_v51) := HX122.out.cell 2
    have hbq := Below.refl w107.heap.size w107
    have hsq := And.intro hbq (And.intro hq_aC_0 (And.intro hq_aC_1 (And.intro hq_aC_2 (And.intro hq_x0_0 (And.intro hq_x0_1 hq_x0_2)))))
    go_wp2
    go_region_held3 (fun w' => Below w107.heap.size w107 w' ∧ w'.cell? ⟨w.heap.size, 0, none⟩ = some (.int .i64 z_aC) ∧ w'.cell? ⟨w.heap.size, 1, none⟩ = some (.slice A1_aC n1_aC c1_aC) ∧ w'.cell? ⟨w.heap.size, 2, none⟩ = some (.slice A2_aC n2_aC c2_aC) ∧ w'.cell? ⟨w52.heap.size, 0, none⟩ = some (.int .i64 (d_aC.1)) ∧ w'.cell? ⟨w52.heap.size, 1, none⟩ = some (.slice A1_v51 n1_v51 c1_v51) ∧ w'.cell? ⟨w52.heap.size, 2, none⟩ = some (.slice A2_v51 n2_v51 c2_v51))
      (first | exact ⟨hbq, hq_aC_0, hq_aC_1, hq_aC_2, hq_x0_0, hq_x0_1, hq_x0_2⟩ | exact ⟨hbq.drew, hq_aC_0, hq_aC_1, hq_aC_2, hq_x0_0, hq_x0_1, hq_x0_2⟩)
      (first
        | (go_at_call 9
           refine (L_toCircuit w.heap.size _ d_aC _ (RdCircuit.below Ha_aC.out (Below.trans HB123.out (Below.mono (by first | exact hbq | exact hbq.drew) (by exact HB123.out.size)))) (by exact Nat.le_trans (HB123.out).size hbq.size) hs_aC).mono ?_
           rintro e w3 ⟨vq, rfl, hoq, hbq3⟩
           obtain ⟨A1_vq, n1_vq, c1_vq, A2_vq, n2_vq, c2_vq, hvq⟩ : ∃ A1_vq n1_vq c1_vq A2_vq n2_vq c2_vq, vq = .agg #[.int .i64 (d_aC.1), .slice A1_vq n1_vq c1_vq, .slice A2_vq n2_vq c2_vq] := by obtain ⟨_, _, _, _, _, _, _, _, _, _, _, rfl, _⟩ := hoq; exact ⟨_, _, _, _, _, _, rfl⟩
           subst hvq
           have hbn : Below w107.heap.size w107 w3 := Below.trans (by first | exact hbq | exact hbq.drew) (hbq3.mono (by exact hbq.size))
           have nhq_aC_0 : w3.cell? ⟨w.heap.size, 0, none⟩ = some (.int .i64 z_aC) := (HX121.out.below hbn HX121.out.lt).cell 0
           have nhq_aC_1 : w3.cell? ⟨w.heap.size, 1, none⟩ = some (.slice A1_aC n1_aC c1_aC) := (HX121.out.below hbn HX121.out.lt).cell 1
           have nhq_aC_2 : w3.cell? ⟨w.heap.size, 2, none⟩ = some (.slice A2_aC n2_aC c2_aC) := (HX121.out.below hbn HX121.out.lt).cell 2
           have nhq_x0_0 : w3.cell? ⟨w52.heap.size, 0, none⟩ = some (.int .i64 (d_aC.1)) := (HX122.out.below hbn HX122.out.lt).cell 0
           have nhq_x0_1 : w3.cell? ⟨w52.heap.size, 1, none⟩ = some (.slice A1_v51 n1_v51 c1_v51) := (HX122.out.below hbn HX122.out.lt).cell 1
           have nhq_x0_2 : w3.cell? ⟨w52.heap.size, 2, none⟩ = some (.slice A2_v51 n2_v51 c2_v51) := (HX122.out.below hbn HX122.out.lt).cell 2
           clear hbq hq_aC_0 hq_aC_1 hq_aC_2 hq_x0_0 hq_x0_1 hq_x0_2 hbq3
           have hbq := hbn
           have hq_aC_0 := nhq_aC_0
           have hq_aC_1 := nhq_aC_1
           have hq_aC_2 := nhq_aC_2
           have hq_x0_0 := nhq_x0_0
           have hq_x0_1 := nhq_x0_1
           have hq_x0_2 := nhq_x0_2
           clear hbn nhq_aC_0 nhq_aC_1 nhq_aC_2 nhq_x0_0 nhq_x0_1 nhq_x0_2)
        | (go_at_call 12
           refine (L_eqCircuit _ _ _ _ d_aC _ (by exact HO118.out.rd.below (hbq.mono (by omega))) (by exact hoq.rd) (by have := hbq.size; omega) (by exact Nat.le_refl _) hs_aC).mono ?_
           rintro e w4 ⟨rfl, hbq4⟩
           have hbn : Below w107.heap.size w107 w4 := Below.trans (by first | exact hbq | exact hbq.drew) (hbq4.mono (by exact hbq.size))
           have nhq_aC_0 : w4.cell? ⟨w.heap.size, 0, none⟩ = some (.int .i64 z_aC) := (HX121.out.below hbn HX121.out.lt).cell 0
           have nhq_aC_1 : w4.cell? ⟨w.heap.size, 1, none⟩ = some (.slice A1_aC n1_aC c1_aC) := (HX121.out.below hbn HX121.out.lt).cell 1
           have nhq_aC_2 : w4.cell? ⟨w.heap.size, 2, none⟩ = some (.slice A2_aC n2_aC c2_aC) := (HX121.out.below hbn HX121.out.lt).cell 2
           have nhq_x0_0 : w4.cell? ⟨w52.heap.size, 0, none⟩ = some (.int .i64 (d_aC.1)) := (HX122.out.below hbn HX122.out.lt).cell 0
           have nhq_x0_1 : w4.cell? ⟨w52.heap.size, 1, none⟩ = some (.slice A1_v51 n1_v51 c1_v51) := (HX122.out.below hbn HX122.out.lt).cell 1
           have nhq_x0_2 : w4.cell? ⟨w52.heap.size, 2, none⟩ = some (.slice A2_v51 n2_v51 c2_v51) := (HX122.out.below hbn HX122.out.lt).cell 2
           clear hbq hq_aC_0 hq_aC_1 hq_aC_2 hq_x0_0 hq_x0_1 hq_x0_2 hbq4
           have hbq := hbn
           have hq_aC_0 := nhq_aC_0
           have hq_aC_1 := nhq_aC_1
           have hq_aC_2 := nhq_aC_2
           have hq_x0_0 := nhq_x0_0
           have hq_x0_1 := nhq_x0_1
           have hq_x0_2 := nhq_x0_2
           clear hbn nhq_aC_0 nhq_aC_1 nhq_aC_2 nhq_x0_0 nhq_x0_1 nhq_x0_2))
    obtain ⟨w124, hwq⟩ : ∃ W, Hid (_ = W) := ⟨_, Lib.hid (Eq.refl w4)⟩
    have HS125 : Hid (Below w107.heap.size w107 w124) := Lib.hid (by rw [← hwq.out]; exact hbq)
    have z126 : w107.heap.size ≤ w124.heap.size := HS125.out.size
    try rw [hwq.out]
    clear hbq hsq hwq hoq hq_aC_0 hq_aC_1 hq_aC_2 hq_x0_0 hq_x0_1 hq_x0_2
    have HO127 := Lib.hid (HO117.out.below HS125.out (by omega))
    clear HO117
    have HO128 := Lib.hid (HO118.out.below HS125.out (by omega))
    clear HO118
    have HO129 := Lib.hid (HO119.out.below HS125.out (by omega))
    clear HO119
    have HO130 := Lib.hid (HO120.out.below HS125.out (by omega))
    clear HO120
    have HX131 := Lib.hid (HX121.out.below HS125.out HX121.out.lt)
    clear HX121
    have HX132 := Lib.hid (HX122.out.below HS125.out HX122.out.lt)
    clear HX122
    have HB133 : Hid (Below w.heap.size w w124) := Lib.hid (HB123.out.trans (HS125.out.mono (by omega)))
    clear HB123
    clear HS125
    have fc139 : w124.cell? ⟨w.heap.size, 0, none⟩ = some (.int .i64 z_aC) := HX131.out.cell 0
    have fc140 : w124.cell? ⟨w.heap.size, 1, none⟩ = some (.slice A1_aC n1_aC c1_aC) := HX131.out.cell 1
    have fc141 : w124.cell? ⟨w.heap.size, 2, none⟩ = some (.slice A2_aC n2_aC c2_aC) := HX131.out.cell 2
    have fc142 : w124.cell? ⟨w52.heap.size, 0, none⟩ = some (.int .i64 (d_aC.1)) := HX132.out.cell 0
    have fc143 : w124.cell? ⟨w52.heap.size, 1, none⟩ = some (.slice A1_v51 n1_v51 c1_v51) := HX132.out.cell 1
    have fc144 : w124.cell? ⟨w52.heap.size, 2, none⟩ = some (.slice A2_v51 n2_v51 c2_v51) := HX132.out.cell 2
    go_wp2_with fail
    refine (L_toIntS _ _ _ _ (RdIntS.below Ha_aIns.out HB133.out) HB133.out.size hs_aIns).mono ?_
    rintro e w135 ⟨v134, rfl, hx145, hy146⟩
    have z138 : w124.heap.size ≤ w135.heap.size := hy146.size
    have HO136 := Lib.hid hx145
    have HS137 := Lib.hid hy146
    clear hx145 hy146
    clear fc139 fc140 fc141 fc142 fc143 fc144
    have HO147 := Lib.hid (HO127.out.below HS137.out (by omega))
    clear HO127
    have HO148 := Lib.hid (HO128.out.below HS137.out (by omega))
    clear HO128
    have HO149 := Lib.hid (HO129.out.below HS137.out (by omega))
    clear HO129
    have HO150 := Lib.hid (HO130.out.below HS137.out (by omega))
    clear HO130
    have HX151 := Lib.hid (HX131.out.below HS137.out HX131.out.lt)
    clear HX131
    have HX152 := Lib.hid (HX132.out.below HS137.out HX132.out.lt)
    clear HX132
    have HB153 : Hid (Below w.heap.size w w135) := Lib.hid (HB133.out.trans (HS137.out.mono (by omega)))
    clear HB133
    clear HS137
    have fc156 : w135.cell? ⟨w.heap.size, 0, none⟩ = some (.int .i64 z_aC) := HX151.out.cell 0
    have fc157 : w135.cell? ⟨w.heap.size, 1, none⟩ = some (.slice A1_aC n1_aC c1_aC) := HX151.out.cell 1
    have fc158 : w135.cell? ⟨w.heap.size, 2, none⟩ = some (.slice A2_aC n2_aC c2_aC) := HX151.out.cell 2
    have fc159 : w135.cell? ⟨w52.heap.size, 0, none⟩ = some (.int .i64 (d_aC.1)) := HX152.out.cell 0
    have fc160 : w135.cell? ⟨w52.heap.size, 1, none⟩ = some (.slice A1_v51 n1_v51 c1_v51) := HX152.out.cell 1
    have fc161 : w135.cell? ⟨w52.heap.size, 2, none⟩ = some (.slice A2_v51 n2_v51 c2_v51) := HX152.out.cell 2
    go_wp2_with fail
    refine (L_eqIntS _ _ _ _ _ _ HO149.out.rd HO136.out.rd (by omega) (by omega) HO149.out.small).mono ?_
    rintro e w154 ⟨rfl, hx155⟩
    have z162 : w135.heap.size ≤ w154.heap.size := hx155.size
    have HS163 := Lib.hid hx155
    clear hx155
    clear fc156 fc157 fc158 fc159 fc160 fc161
    have HO164 := Lib.hid (HO147.out.below HS163.out (by omega))
    clear HO147
    have HO165 := Lib.hid (HO148.out.below HS163.out (by omega))
    clear HO148
    have HO166 := Lib.hid (HO149.out.below HS163.out (by omega))
    clear HO149
    have HO167 := Lib.hid (HO150.out.below HS163.out (by omega))
    clear HO150
    have HO168 := Lib.hid (HO136.out.below HS163.out (by omega))
    clear HO136
    have HX169 := Lib.hid (HX151.out.below HS163.out HX151.out.lt)
    clear HX151
    have HX170 := Lib.hid (HX152.out.below HS163.out HX152.out.lt)
    clear HX152
    have HB171 : Hid (Below w.heap.size w w154) := Lib.hid (HB153.out.trans (HS163.out.mono (by omega)))
    clear HB153
    clear HS163
    clear HO168
    have fc180 : w154.cell? ⟨w.heap.size, 0, none⟩ = some (.int .i64 z_aC) := HX169.out.cell 0
    have fc181 : w154.cell? ⟨w.heap.size, 1, none⟩ = some (.slice A1_aC n1_aC c1_aC) := HX169.out.cell 1
    have fc182 : w154.cell? ⟨w.heap.size, 2, none⟩ = some (.slice A2_aC n2_aC c2_aC) := HX169.out.cell 2
    have fc183 : w154.cell? ⟨w52.heap.size, 0, none⟩ = some (.int .i64 (d_aC.1)) := HX170.out.cell 0
    have fc184 : w154.cell? ⟨w52.heap.size, 1, none⟩ = some (.slice A1_v51 n1_v51 c1_v51) := HX170.out.cell 1
    have fc185 : w154.cell? ⟨w52.heap.size, 2, none⟩ = some (.slice A2_v51 n2_v51 c2_v51) := HX170.out.cell 2
    go_wp2_with fail
    refine (L_markCircuit _ _ _ _ _ _ HO165.out (by omega) (by omega) (by omega)).mono ?_
    rintro e w172 ⟨K173, rfl, hk174, h0_175, h1_176, hx177, hy178⟩
    have z179 : w154.heap.size ≤ w172.heap.size := hy178.size
    have HO186 := Lib.hid hx177
    have HS187 := Lib.hid hy178
    clear hx177 hy178
    clear fc180 fc181 fc182 fc183 fc184 fc185
    have HO188 := Lib.hid (HO164.out.kept HS187.out (by omega) (by omega))
    clear HO164
    have HO189 := Lib.hid (HO166.out.kept HS187.out (by omega) (by omega))
    clear HO166
    have HO190 := Lib.hid (HO167.out.kept HS187.out (by omega) (by omega))
    clear HO167
    have HX191 := Lib.hid (HX169.out.kept HS187.out (by omega))
    clear HX169
    have HX192 := Lib.hid (HX170.out.kept HS187.out (by omega))
    clear HX170
    have HB193 : Hid (Below w.heap.size w w172) := Lib.hid (HB171.out.trans ((HS187.out.to_below (by omega)).mono (by omega)))
    clear HB171
    clear HS187 HO165
    have fc202 : w172.cell? ⟨w.heap.size, 0, none⟩ = some (.int .i64 z_aC) := HX191.out.cell 0
    have fc203 : w172.cell? ⟨w.heap.size, 1, none⟩ = some (.slice A1_aC n1_aC c1_aC) := HX191.out.cell 1
    have fc204 : w172.cell? ⟨w.heap.size, 2, none⟩ = some (.slice A2_aC n2_aC c2_aC) := HX191.out.cell 2
    have fc205 : w172.cell? ⟨w52.heap.size, 0, none⟩ = some (.int .i64 (d_aC.1)) := HX192.out.cell 0
    have fc206 : w172.cell? ⟨w52.heap.size, 1, none⟩ = some (.slice A1_v51 n1_v51 c1_v51) := HX192.out.cell 1
    have fc207 : w172.cell? ⟨w52.heap.size, 2, none⟩ = some (.slice A2_v51 n2_v51 c2_v51) := HX192.out.cell 2
    go_wp2_with fail
    refine (L_markIntS _ _ _ _ _ _ HO189.out (by omega) (by omega) (by omega)).mono ?_
    rintro e w194 ⟨K195, rfl, hk196, h0_197, h1_198, hx199, hy200⟩
    have z201 : w172.heap.size ≤ w194.heap.size := hy200.size
    have HO208 := Lib.hid hx199
    have HS209 := Lib.hid hy200
    clear hx199 hy200
    clear fc202 fc203 fc204 fc205 fc206 fc207
    have HO210 := Lib.hid (HO188.out.kept HS209.out (by omega) (by omega))
    clear HO188
    have HO211 := Lib.hid (HO186.out.kept HS209.out (by omega) (by omega))
    clear HO186
    have HO212 := Lib.hid (HO190.out.kept HS209.out (by omega) (by omega))
    clear HO190
    have HX213 := Lib.hid (HX191.out.kept HS209.out (by omega))
    clear HX191
    have HX214 := Lib.hid (HX192.out.kept HS209.out (by omega))
    clear HX192
    have HB215 : Hid (Below w.heap.size w w194) := Lib.hid (HB193.out.trans ((HS209.out.to_below (by omega)).mono (by omega)))
    clear HB193
    clear HS209 HO189
    clear HO211
    clear HO208
    have fc218 : w194.cell? ⟨w.heap.size, 0, none⟩ = some (.int .i64 z_aC) := HX213.out.cell 0
    have fc219 : w194.cell? ⟨w.heap.size, 1, none⟩ = some (.slice A1_aC n1_aC c1_aC) := HX213.out.cell 1
    have fc220 : w194.cell? ⟨w.heap.size, 2, none⟩ = some (.slice A2_aC n2_aC c2_aC) := HX213.out.cell 2
    have fc221 : w194.cell? ⟨w52.heap.size, 0, none⟩ = some (.int .i64 (d_aC.1)) := HX214.out.cell 0
    have fc222 : w194.cell? ⟨w52.heap.size, 1, none⟩ = some (.slice A1_v51 n1_v51 c1_v51) := HX214.out.cell 1
    have fc223 : w194.cell? ⟨w52.heap.size, 2, none⟩ = some (.slice A2_v51 n2_v51 c2_v51) := HX214.out.cell 2
    go_wp2_with fail
    refine (L_eqIntS _ _ _ _ _ _ HO212.out.rd HO210.out.rd (by omega) (by omega) HO212.out.small).mono ?_
    rintro e w216 ⟨rfl, hx217⟩
    have z224 : w194.heap.size ≤ w216.heap.size := hx217.size
    have HS225 := Lib.hid hx217
    clear hx217
    clear fc218 fc219 fc220 fc221 fc222 fc223
    have HO226 := Lib.hid (HO210.out.below HS225.out (by omega))
    clear HO210
    have HO227 := Lib.hid (HO212.out.below HS225.out (by omega))
    clear HO212
    have HX228 := Lib.hid (HX213.out.below HS225.out HX213.out.lt)
    clear HX213
    have HX229 := Lib.hid (HX214.out.below HS225.out HX214.out.lt)
    clear HX214
    have HB230 : Hid (Below w.heap.size w w216) := Lib.hid (HB215.out.trans (HS225.out.mono (by omega)))
    clear HB215
    clear HS225
    have hs231 := HO227.out.small
    have fc240 : w216.cell? ⟨w.heap.size, 0, none⟩ = some (.int .i64 z_aC) := HX228.out.cell 0
    have fc241 : w216.cell? ⟨w.heap.size, 1, none⟩ = some (.slice A1_aC n1_aC c1_aC) := HX228.out.cell 1
    have fc242 : w216.cell? ⟨w.heap.size, 2, none⟩ = some (.slice A2_aC n2_aC c2_aC) := HX228.out.cell 2
    have fc243 : w216.cell? ⟨w52.heap.size, 0, none⟩ = some (.int .i64 (d_aC.1)) := HX229.out.cell 0
    have fc244 : w216.cell? ⟨w52.heap.size, 1, none⟩ = some (.slice A1_v51 n1_v51 c1_v51) := HX229.out.cell 1
    have fc245 : w216.cell? ⟨w52.heap.size, 2, none⟩ = some (.slice A2_v51 n2_v51 c2_v51) := HX229.out.cell 2
    go_wp2_with fail
    refine (L_markIntS _ _ _ _ _ _ HO227.out (by omega) (by omega) (by omega)).mono ?_
    rintro e w232 ⟨K233, rfl, hk234, h0_235, h1_236, hx237, hy238⟩
    have z239 : w216.heap.size ≤ w232.heap.size := hy238.size
    have HO246 := Lib.hid hx237
    have HS247 := Lib.hid hy238
    clear hx237 hy238
    clear fc240 fc241 fc242 fc243 fc244 fc245
    have HO248 := Lib.hid (HO226.out.kept HS247.out (by omega) (by omega))
    clear HO226
    have HX249 := Lib.hid (HX228.out.kept HS247.out (by omega))
    clear HX228
    have HX250 := Lib.hid (HX229.out.kept HS247.out (by omega))
    clear HX229
    have HB251 : Hid (Below w.heap.size w w232) := Lib.hid (HB230.out.trans ((HS247.out.to_below (by omega)).mono (by omega)))
    clear HB230
    clear HS247 HO227
    have fc258 : w232.cell? ⟨w.heap.size, 0, none⟩ = some (.int .i64 z_aC) := HX249.out.cell 0
    have fc259 : w232.cell? ⟨w.heap.size, 1, none⟩ = some (.slice A1_aC n1_aC c1_aC) := HX249.out.cell 1
    have fc260 : w232.cell? ⟨w.heap.size, 2, none⟩ = some (.slice A2_aC n2_aC c2_aC) := HX249.out.cell 2
    have fc261 : w232.cell? ⟨w52.heap.size, 0, none⟩ = some (.int .i64 (d_aC.1)) := HX250.out.cell 0
    have fc262 : w232.cell? ⟨w52.heap.size, 1, none⟩ = some (.slice A1_v51 n1_v51 c1_v51) := HX250.out.cell 1
    have fc263 : w232.cell? ⟨w52.heap.size, 2, none⟩ = some (.slice A2_v51 n2_v51 c2_v51) := HX250.out.cell 2
    go_wp2_with fail
    refine (L_heldIntS _ _ (R_RowsWitness_0 d_aC d_aIns) 1 _ _ HO246.out.rd (by omega) hs231 (Lib.hid rfl) (by omega) (by omega)).mono ?_
    rintro e w252 ⟨K253, rfl, hk254, h0_255, h1_256, hx257⟩
    have z264 : w232.heap.size ≤ w252.heap.size := hx257.size
    have HS265 := Lib.hid hx257
    clear hx257
    have HE266 : Hid (K253 = K233) := Lib.hid (by rw [hk254.out, hk234.out])
    have hne267 : (K253 != K233) = false := by rw [HE266.out]; simp
    clear fc258 fc259 fc260 fc261 fc262 fc263
    have HO268 := Lib.hid (HO248.out.below HS265.out (by omega))
    clear HO248
    have HO269 := Lib.hid (HO246.out.below HS265.out (by omega))
    clear HO246
    have HX270 := Lib.hid (HX249.out.below HS265.out HX249.out.lt)
    clear HX249
    have HX271 := Lib.hid (HX250.out.below HS265.out HX250.out.lt)
    clear HX250
    have HB272 : Hid (Below w.heap.size w w252) := Lib.hid (HB251.out.trans (HS265.out.mono (by omega)))
    clear HB251
    clear HS265
    have fc278 : w252.cell? ⟨w.heap.size, 0, none⟩ = some (.int .i64 z_aC) := HX270.out.cell 0
    have fc279 : w252.cell? ⟨w.heap.size, 1, none⟩ = some (.slice A1_aC n1_aC c1_aC) := HX270.out.cell 1
    have fc280 : w252.cell? ⟨w.heap.size, 2, none⟩ = some (.slice A2_aC n2_aC c2_aC) := HX270.out.cell 2
    have fc281 : w252.cell? ⟨w52.heap.size, 0, none⟩ = some (.int .i64 (d_aC.1)) := HX271.out.cell 0
    have fc282 : w252.cell? ⟨w52.heap.size, 1, none⟩ = some (.slice A1_v51 n1_v51 c1_v51) := HX271.out.cell 1
    have fc283 : w252.cell? ⟨w52.heap.size, 2, none⟩ = some (.slice A2_v51 n2_v51 c2_v51) := HX271.out.cell 2
    go_wp2_with fail
    refine (L_toCircuit _ _ _ _ (RdCircuit.below Ha_aC.out HB272.out) HB272.out.size hs_aC).mono ?_
    rintro e w274 ⟨v273, rfl, hx284, hy285⟩
    have z277 : w252.heap.size ≤ w274.heap.size := hy285.size
    obtain ⟨A1_v273, n1_v273, c1_v273, A2_v273, n2_v273, c2_v273, hv286⟩ : ∃ A1_v273 n1_v273 c1_v273 A2_v273 n2_v273 c2_v273, v273 = .agg #[.int .i64 (d_aC.1), .slice A1_v273 n1_v273 c1_v273, .slice A2_v273 n2_v273 c2_v273] := by obtain ⟨_, _, _, _, _, _, _, _, _, _, _, rfl, _⟩ := hx284; exact ⟨_, _, _, _, _, _, rfl⟩
    subst hv286
    have HO275 := Lib.hid hx284
    have HS276 := Lib.hid hy285
    clear hx284 hy285
    clear fc278 fc279 fc280 fc281 fc282 fc283
    have HO287 := Lib.hid (HO268.out.below HS276.out (by omega))
    clear HO268
    have HO288 := Lib.hid (HO269.out.below HS276.out (by omega))
    clear HO269
    have HX289 := Lib.hid (HX270.out.below HS276.out HX270.out.lt)
    clear HX270
    have HX290 := Lib.hid (HX271.out.below HS276.out HX271.out.lt)
    clear HX271
    have HB291 : Hid (Below w.heap.size w w274) := Lib.hid (HB272.out.trans (HS276.out.mono (by omega)))
    clear HB272
    clear HS276
    have fc297 : w274.cell? ⟨w.heap.size, 0, none⟩ = some (.int .i64 z_aC) := HX289.out.cell 0
    have fc298 : w274.cell? ⟨w.heap.size, 1, none⟩ = some (.slice A1_aC n1_aC c1_aC) := HX289.out.cell 1
    have fc299 : w274.cell? ⟨w.heap.size, 2, none⟩ = some (.slice A2_aC n2_aC c2_aC) := HX289.out.cell 2
    have fc300 : w274.cell? ⟨w52.heap.size, 0, none⟩ = some (.int .i64 (d_aC.1)) := HX290.out.cell 0
    have fc301 : w274.cell? ⟨w52.heap.size, 1, none⟩ = some (.slice A1_v51 n1_v51 c1_v51) := HX290.out.cell 1
    have fc302 : w274.cell? ⟨w52.heap.size, 2, none⟩ = some (.slice A2_v51 n2_v51 c2_v51) := HX290.out.cell 2
    go_wp2_with fail
    refine (L_toIntS _ _ _ _ (RdIntS.below Ha_aIns.out HB291.out) HB291.out.size hs_aIns).mono ?_
    rintro e w293 ⟨v292, rfl, hx303, hy304⟩
    have z296 : w274.heap.size ≤ w293.heap.size := hy304.size
    have HO294 := Lib.hid hx303
    have HS295 := Lib.hid hy304
    clear hx303 hy304
    clear fc297 fc298 fc299 fc300 fc301 fc302
    have HO305 := Lib.hid (HO287.out.below HS295.out (by omega))
    clear HO287
    have HO306 := Lib.hid (HO288.out.below HS295.out (by omega))
    clear HO288
    have HO307 := Lib.hid (HO275.out.below HS295.out (by omega))
    clear HO275
    have HX308 := Lib.hid (HX289.out.below HS295.out HX289.out.lt)
    clear HX289
    have HX309 := Lib.hid (HX290.out.below HS295.out HX290.out.lt)
    clear HX290
    have HB310 : Hid (Below w.heap.size w w293) := Lib.hid (HB291.out.trans (HS295.out.mono (by omega)))
    clear HB291
    clear HS295
    have fc311 : w293.cell? ⟨w.heap.size, 0, none⟩ = some (.int .i64 z_aC) := HX308.out.cell 0
    have fc312 : w293.cell? ⟨w.heap.size, 1, none⟩ = some (.slice A1_aC n1_aC c1_aC) := HX308.out.cell 1
    have fc313 : w293.cell? ⟨w.heap.size, 2, none⟩ = some (.slice A2_aC n2_aC c2_aC) := HX308.out.cell 2
    have fc314 : w293.cell? ⟨w52.heap.size, 0, none⟩ = some (.int .i64 (d_aC.1)) := HX309.out.cell 0
    have fc315 : w293.cell? ⟨w52.heap.size, 1, none⟩ = some (.slice A1_v51 n1_v51 c1_v51) := HX309.out.cell 1
    have fc316 : w293.cell? ⟨w52.heap.size, 2, none⟩ = some (.slice A2_v51 n2_v51 c2_v51) := HX309.out.cell 2
    go_wp2_with fail
    refine (X_i_RowsWitness _ _ d_aC d_aIns _ (HO307.out.rd.more (by omega)) (HO294.out.rd.more (by omega)) hs_aC hs_aIns).mono ?_
    rintro e w317 ⟨h0_w317, rfl, hx318, hy319⟩
    have z320 : w293.heap.size ≤ w317.heap.size := hy319.size
    have HO321 := Lib.hid hx318
    clear hx318
    have HS322 := Lib.hid hy319
    clear hy319
    clear fc311 fc312 fc313 fc314 fc315 fc316
    have HO323 := Lib.hid (HO305.out.below HS322.out (by omega))
    clear HO305
    have HO324 := Lib.hid (HO306.out.below HS322.out (by omega))
    clear HO306
    have HO325 := Lib.hid (HO307.out.below HS322.out (by omega))
    clear HO307
    have HO326 := Lib.hid (HO294.out.below HS322.out (by omega))
    clear HO294
    have HX327 := Lib.hid (HX308.out.below HS322.out HX308.out.lt)
    clear HX308
    have HX328 := Lib.hid (HX309.out.below HS322.out HX309.out.lt)
    clear HX309
    have HB329 : Hid (Below w.heap.size w w317) := Lib.hid (HB310.out.trans (HS322.out.mono (by omega)))
    clear HB310
    clear HS322
    clear HO325
    clear HO326
    have fc332 : w317.cell? ⟨w.heap.size, 0, none⟩ = some (.int .i64 z_aC) := HX327.out.cell 0
    have fc333 : w317.cell? ⟨w.heap.size, 1, none⟩ = some (.slice A1_aC n1_aC c1_aC) := HX327.out.cell 1
    have fc334 : w317.cell? ⟨w.heap.size, 2, none⟩ = some (.slice A2_aC n2_aC c2_aC) := HX327.out.cell 2
    have fc335 : w317.cell? ⟨w52.heap.size, 0, none⟩ = some (.int .i64 (d_aC.1)) := HX328.out.cell 0
    have fc336 : w317.cell? ⟨w52.heap.size, 1, none⟩ = some (.slice A1_v51 n1_v51 c1_v51) := HX328.out.cell 1
    have fc337 : w317.cell? ⟨w52.heap.size, 2, none⟩ = some (.slice A2_v51 n2_v51 c2_v51) := HX328.out.cell 2
    go_wp2_with fail
    refine (L_eqIntS _ _ _ _ _ _ HO321.out.rd HO323.out.rd (by omega) (by omega) HO321.out.small).mono ?_
    rintro e w330 ⟨rfl, hx331⟩
    have z338 : w317.heap.size ≤ w330.heap.size := hx331.size
    have HS339 := Lib.hid hx331
    clear hx331
    clear fc332 fc333 fc334 fc335 fc336 fc337
    have HO340 := Lib.hid (HO323.out.below HS339.out (by omega))
    clear HO323
    have HO341 := Lib.hid (HO324.out.below HS339.out (by omega))
    clear HO324
    have HO342 := Lib.hid (HO321.out.below HS339.out (by omega))
    clear HO321
    have HX343 := Lib.hid (HX327.out.below HS339.out HX327.out.lt)
    clear HX327
    have HX344 := Lib.hid (HX328.out.below HS339.out HX328.out.lt)
    clear HX328
    have HB345 : Hid (Below w.heap.size w w330) := Lib.hid (HB329.out.trans (HS339.out.mono (by omega)))
    clear HB329
    clear HS339
    have fc352 : w330.cell? ⟨w.heap.size, 0, none⟩ = some (.int .i64 z_aC) := HX343.out.cell 0
    have fc353 : w330.cell? ⟨w.heap.size, 1, none⟩ = some (.slice A1_aC n1_aC c1_aC) := HX343.out.cell 1
    have fc354 : w330.cell? ⟨w.heap.size, 2, none⟩ = some (.slice A2_aC n2_aC c2_aC) := HX343.out.cell 2
    have fc355 : w330.cell? ⟨w52.heap.size, 0, none⟩ = some (.int .i64 (d_aC.1)) := HX344.out.cell 0
    have fc356 : w330.cell? ⟨w52.heap.size, 1, none⟩ = some (.slice A1_v51 n1_v51 c1_v51) := HX344.out.cell 1
    have fc357 : w330.cell? ⟨w52.heap.size, 2, none⟩ = some (.slice A2_v51 n2_v51 c2_v51) := HX344.out.cell 2
    go_wp2_with fail
    refine (L_heldIntS _ _ (R_RowsWitness_0 d_aC d_aIns) 1 _ _ HO341.out.rd (by omega) hs231 (Lib.hid rfl) (by omega) (by omega)).mono ?_
    rintro e w346 ⟨K347, rfl, hk348, h0_349, h1_350, hx351⟩
    have z358 : w330.heap.size ≤ w346.heap.size := hx351.size
    have HS359 := Lib.hid hx351
    clear hx351
    have HE360 : Hid (K347 = K233) := Lib.hid (by rw [hk348.out, hk234.out])
    have hne361 : (K347 != K233) = false := by rw [HE360.out]; simp
    clear fc352 fc353 fc354 fc355 fc356 fc357
    have HO362 := Lib.hid (HO340.out.below HS359.out (by omega))
    clear HO340
    have HO363 := Lib.hid (HO341.out.below HS359.out (by omega))
    clear HO341
    have HO364 := Lib.hid (HO342.out.below HS359.out (by omega))
    clear HO342
    have HX365 := Lib.hid (HX343.out.below HS359.out HX343.out.lt)
    clear HX343
    have HX366 := Lib.hid (HX344.out.below HS359.out HX344.out.lt)
    clear HX344
    have HB367 : Hid (Below w.heap.size w w346) := Lib.hid (HB345.out.trans (HS359.out.mono (by omega)))
    clear HB345
    clear HS359
    go_wp2
    go_ret
    exact ⟨rfl, HB367.out⟩
  · have hn_aIns : ¬ n_aIns ≤ 1048576 := by have := h_aIns.len; unfold szIntS at hs_aIns; omega
    go_enter Try.func4, Try.ntmps4
    go_wp2
    go_ret
    exact ⟨rfl, by first | exact Below.refl _ _ | exact (Below.refl _ _).alloc (Nat.le_refl _) _ | exact ((Below.refl _ _).alloc (Nat.le_refl _) _).alloc (by simp) _⟩

set_option maxRecDepth 100000 in
theorem lifted (os : Os) (started : os.Started) (H : Type) (enc : TypeId × Value → H) :
    ReturnsInHanded {} Try.checked os 4 .any (Rows.fnExactRowsWitnessSpec.pre6 enc Try.prog Try.f4 Rows.fnExactRowsWitnessRow.domain false) (Rows.fnExactRowsWitnessSpec.post enc Try.prog Try.f4 false true false false) := by
  refine returnsInHanded_of_change (C := Try.checked) own started (by kernel_rfl) Try.func4
    (ChangeSpec.witness6 (enc := enc) (C := Try.checked) false ⟨#[], #[.agg #[.int .i64 0, .slice none 0 0, .slice none 0 0], .slice none 0 0], []⟩ 8 (by kernel_rfl) (by kernel_rfl) (by kernel_rfl) (by kernel_rfl)) ?_
  intro W base args ds gs before hval0 hW hcnd _
  have hval : ∀ (j : Nat) t v, Try.f4.params[j]? = some t → args[j]? = some v → Value.okWide Try.prog W .any base t v := hval0
  have hW' := hW
  obtain ⟨p, q, hA0, hV, rfl, hfz, hnd⟩ := hW
  have hA : DataW.TrodAll enc Try.prog W 0 (fun _ => true) true Try.f4.params.toList args.toList ds p := hA0
  rw [Try.params4] at hA hval
  obtain ⟨v0, vs0, dd0, ds0, p0, q0, hargs, rfl, rfl, h0, r0⟩ := trodAll_cons hA
  obtain ⟨v1, vs1, dd1, ds1, p1, q1, rfl, rfl, rfl, h1, r1⟩ := trodAll_cons r0
  obtain ⟨rfl, rfl, rfl⟩ := trodAll_nil r1
  obtain rfl : args = #[v0, v1] := by cases args; simp_all
  obtain ⟨rfl, rfl⟩ := trodVars_none hV
  obtain ⟨u0_aC, u1_aC, u2_aC, y0_aC, y1_aC, y2_aC, fz_aC, rfl, rfl, rfl, g0_aC, g1_aC, g2_aC⟩ := Go.Joins.open_agg3 Try.underlying25 (by kernel_rfl) (by kernel_rfl) (hval 0 25 v0 rfl rfl) h0
  obtain ⟨z_aC, rfl, _⟩ := field_int Try.underlying3 g0_aC
  obtain ⟨A1_aC, n1_aC, c1_aC, d1_aC, rfl, h1_aC⟩ := field_GateS Try.underlying22 Try.underlying82 (by kernel_rfl) rfl rfl rfl (by kernel_rfl) (by kernel_rfl) (by kernel_rfl) Try.underlying3 Try.underlying3 Try.underlying3 g1_aC
  obtain ⟨A2_aC, n2_aC, c2_aC, d2_aC, rfl, h2_aC⟩ := field_IntS Try.underlying23 Try.underlying3 (by kernel_rfl) g2_aC
  obtain ⟨A_aIns, n_aIns, c_aIns, d_aIns, rfl, hm_aIns, h_aIns⟩ := open_intS Try.underlying23 Try.underlying3 (by kernel_rfl) (hval 1 23 v1 rfl rfl) h1
  refine (walk z_aC A1_aC n1_aC c1_aC A2_aC n2_aC c2_aC d1_aC d2_aC A_aIns n_aIns c_aIns d_aIns W h1_aC h2_aC hm_aIns h_aIns).mono fun e W' ⟨he, hb⟩ => ?_
  subst he
  exact ⟨_, rfl, post_law rfl rfl Try.underlying4 (by kernel_rfl) (by kernel_rfl) hW' rfl hb⟩

theorem closed : joinedFacts Try.prog 4 Try.f4 Rows.fnExactRowsWitnessSpec Rows.fnExactRowsWitnessRow = true := joined_of (by kernel_rfl)
theorem over : Rows.fnExactRowsWitnessRow.holds Try.pinned (OpenSpec.ofChange Rows.fnExactRowsWitnessSpec) :=
  OpenClaim.holds_of_wide 4 Try.f4 rfl rfl rfl rfl rfl rfl rfl ⟨rfl, rfl, rfl, rfl, rfl⟩ rfl rfl rfl rfl rfl (by kernel_rfl) Try.func4 closed
    (of_decide_eq_true (by kernel_rfl)) (by unfold Func.isWrapper; first | (rw [if_pos (by decide +kernel)]; kernel_rfl) | (rw [if_neg (by decide +kernel)]; exact ⟨rfl, rfl⟩))
    (fun os started H enc _ => lifted os started H enc)
/-- the statement -/
theorem proved : Rows.FnExactRowsWitnessSaid :=
  over
end Go.Proofs.Ytlagkinamnjnhaa.fnExactRowsWitness
