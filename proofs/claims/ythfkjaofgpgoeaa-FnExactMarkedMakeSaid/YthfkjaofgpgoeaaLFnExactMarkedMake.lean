/- FnExactMarkedMake answers true at every input: at each argument the function and its model answer alike, no argument is written, and the answer owns its memory. No condition. -/
import Derived.Test.YthfkjaofgpgoeaaRows
import Derived.Test.YthfkjaofgpgoeaaLaw
import Derived.Test.YthfkjaofgpgoeaaDoor
import Derived.Test.YthfkjaofgpgoeaaMFnExactMarkedMake
namespace Go.Proofs.Ythfkjaofgpgoeaa.fnExactMarkedMake
open Go.ChangeShapes Go.WideShapes Go.ChangeAt Go.RowKit
theorem own : ownKnob Try.prog.godebug = none := by kernel_rfl
set_option maxRecDepth 100000 in
set_option maxHeartbeats 4000000 in
theorem walk (aValue : Int) (aKey : Int) (aN : Int) (A_aTape : Option Addr) (n_aTape c_aTape : Nat) (d_aTape : List Int) (w : World) (_w_aValue : (Lit.int .i64 aValue).wf = true) (_w_aKey : (Lit.int .i64 aKey).wf = true) (_w_aN : (Lit.int .i64 aN).wf = true) (hm_aTape : n_aTape ≤ 9223372036854775807) (h_aTape : Rd w w.heap.size 1 A_aTape n_aTape (cI d_aTape)) :
    Calls Try.prog 3 #[.int .i64 aValue, .int .i64 aKey, .int .i64 aN, .slice A_aTape n_aTape c_aTape] w fun e w' => e = .returned (.bool true) ∧ Below w.heap.size w w' := by
  by_cases hs_aTape : szIntS d_aTape ≤ 1048576
  · have hn_aTape : n_aTape ≤ 1048576 := by have := h_aTape.len; unfold szIntS at hs_aTape; omega
    have Ha_aTape : Hid (RdIntS w w.heap.size (.slice A_aTape n_aTape c_aTape) d_aTape) := Lib.hid (⟨A_aTape, n_aTape, c_aTape, rfl, hm_aTape, h_aTape⟩)
    clear h_aTape
    go_enter Try.func3, Try.ntmps3
    go_wp2_with fail
    refine (L_toIntS _ _ _ _ Ha_aTape.out (Nat.le_refl _) hs_aTape).mono ?_
    rintro e w2 ⟨v1, rfl, hx6, hy7⟩
    have z5 : w.heap.size ≤ w2.heap.size := hy7.size
    have HO3 := Lib.hid hx6
    have HS4 := Lib.hid hy7
    clear hx6 hy7
    have HB8 : Hid (Below w.heap.size w w2) := Lib.hid (HS4.out.mono (by omega))
    clear HS4
    go_wp2_with fail
    refine (X_s_MarkedMake _ aValue aKey aN d_aTape _ _ _ HO3.out (by omega) hs_aTape).mono ?_
    rintro e w9 ⟨w0_w9, rfl, hx10, hy11⟩
    have z12 : w2.heap.size ≤ w9.heap.size := hy11.size
    obtain ⟨A0_w0_w9, n0_w0_w9, c0_w0_w9, A1_w0_w9, n1_w0_w9, c1_w0_w9, hv13⟩ : ∃ A0_w0_w9 n0_w0_w9 c0_w0_w9 A1_w0_w9 n1_w0_w9 c1_w0_w9, w0_w9 = .agg #[.slice A0_w0_w9 n0_w0_w9 c0_w0_w9, .slice A1_w0_w9 n1_w0_w9 c1_w0_w9] := by obtain ⟨_, _, _, _, _, _, _, _, _, _, _, rfl, _⟩ := hx10; exact ⟨_, _, _, _, _, _, rfl⟩
    subst hv13
    have HO14 := Lib.hid hx10
    clear hx10
    have HS15 := Lib.hid hy11
    clear hy11
    have HO16 := Lib.hid (HO3.out.below HS15.out (by omega))
    clear HO3
    have HB17 : Hid (Below w.heap.size w w9) := Lib.hid (HB8.out.trans (HS15.out.mono (by omega)))
    clear HB8
    clear HS15
    clear HO16
    go_wp2_with fail
    obtain ⟨w23, hW24⟩ : ∃ W, Hid (w9.alloc (.cells #[.slice A0_w0_w9 n0_w0_w9 c0_w0_w9, .slice A1_w0_w9 n1_w0_w9 c1_w0_w9] 24) = W) := ⟨_, Lib.hid rfl⟩
    have z25 : w23.heap.size = w9.heap.size + 1 := by rw [← hW24.out, World.size_alloc]
    have HS26 : Hid (Below w9.heap.size w9 w23) := Lib.hid (by rw [← hW24.out]; exact (Below.refl _ _).alloc (Nat.le_refl _) _)
    have HX27 : Hid (Bx w23 w9.heap.size #[.slice A0_w0_w9 n0_w0_w9 c0_w0_w9, .slice A1_w0_w9 n1_w0_w9 c1_w0_w9] 24) := Lib.hid (by rw [← hW24.out]; exact Bx.new _ _ _)
    have HO28 := Lib.hid (HO14.out.below HS26.out (by omega))
    clear HO14
    have HB29 : Hid (Below w.heap.size w w23) := Lib.hid (HB17.out.trans (HS26.out.mono (by omega)))
    clear HB17
    clear HS26
    rw [hW24.out]
    clear hW24
    refine (L_toIntS _ _ _ _ (RdIntS.below Ha_aTape.out HB29.out) HB29.out.size hs_aTape).mono ?_
    rintro e w19 ⟨v18, rfl, hx30, hy31⟩
    have z22 : w23.heap.size ≤ w19.heap.size := hy31.size
    have HO20 := Lib.hid hx30
    have HS21 := Lib.hid hy31
    clear hx30 hy31
    have HO32 := Lib.hid (HO28.out.below HS21.out (by omega))
    clear HO28
    have HX33 := Lib.hid (HX27.out.below HS21.out HX27.out.lt)
    clear HX27
    have HB34 : Hid (Below w.heap.size w w19) := Lib.hid (HB29.out.trans (HS21.out.mono (by omega)))
    clear HB29
    clear HS21
    have fc35 : w19.cell? ⟨w9.heap.size, 0, none⟩ = some (.slice A0_w0_w9 n0_w0_w9 c0_w0_w9) := HX33.out.cell 0
    have fc36 : w19.cell? ⟨w9.heap.size, 1, none⟩ = some (.slice A1_w0_w9 n1_w0_w9 c1_w0_w9) := HX33.out.cell 1
    go_wp2_with fail
    refine (X_i_MarkedMake _ aValue aKey aN d_aTape _ _ _ HO20.out (by omega) hs_aTape).mono ?_
    rintro e w37 ⟨g0_w37, rfl, hx38, hy39⟩
    have z40 : w19.heap.size ≤ w37.heap.size := hy39.size
    obtain ⟨A0_g0_w37, n0_g0_w37, c0_g0_w37, A1_g0_w37, n1_g0_w37, c1_g0_w37, hv41⟩ : ∃ A0_g0_w37 n0_g0_w37 c0_g0_w37 A1_g0_w37 n1_g0_w37 c1_g0_w37, g0_w37 = .agg #[.slice A0_g0_w37 n0_g0_w37 c0_g0_w37, .slice A1_g0_w37 n1_g0_w37 c1_g0_w37] := by obtain ⟨_, _, _, _, _, _, _, _, _, _, _, rfl, _⟩ := hx38; exact ⟨_, _, _, _, _, _, rfl⟩
    subst hv41
    have HO42 := Lib.hid hx38
    clear hx38
    have HS43 := Lib.hid hy39
    clear hy39
    clear fc35 fc36
    have HO44 := Lib.hid (HO32.out.below HS43.out (by omega))
    clear HO32
    have HO45 := Lib.hid (HO20.out.below HS43.out (by omega))
    clear HO20
    have HX46 := Lib.hid (HX33.out.below HS43.out HX33.out.lt)
    clear HX33
    have HB47 : Hid (Below w.heap.size w w37) := Lib.hid (HB34.out.trans (HS43.out.mono (by omega)))
    clear HB34
    clear HS43
    have fc50 : (w37.alloc (.cells #[.slice A0_g0_w37 n0_g0_w37 c0_g0_w37, .slice A1_g0_w37 n1_g0_w37 c1_g0_w37] 24)).cell? ⟨w9.heap.size, 0, none⟩ = some (.slice A0_w0_w9 n0_w0_w9 c0_w0_w9) := (HX46.out.alloc _).cell 0
    have fc51 : (w37.alloc (.cells #[.slice A0_g0_w37 n0_g0_w37 c0_g0_w37, .slice A1_g0_w37 n1_g0_w37 c1_g0_w37] 24)).cell? ⟨w9.heap.size, 1, none⟩ = some (.slice A1_w0_w9 n1_w0_w9 c1_w0_w9) := (HX46.out.alloc _).cell 1
    go_wp2_with fail
    clear fc50 fc51
    obtain ⟨w52, hW53⟩ : ∃ W, Hid (w37.alloc (.cells #[.slice A0_g0_w37 n0_g0_w37 c0_g0_w37, .slice A1_g0_w37 n1_g0_w37 c1_g0_w37] 24) = W) := ⟨_, Lib.hid rfl⟩
    have z54 : w52.heap.size = w37.heap.size + 1 := by rw [← hW53.out, World.size_alloc]
    have HS55 : Hid (Below w37.heap.size w37 w52) := Lib.hid (by rw [← hW53.out]; exact (Below.refl _ _).alloc (Nat.le_refl _) _)
    have HX56 : Hid (Bx w52 w37.heap.size #[.slice A0_g0_w37 n0_g0_w37 c0_g0_w37, .slice A1_g0_w37 n1_g0_w37 c1_g0_w37] 24) := Lib.hid (by rw [← hW53.out]; exact Bx.new _ _ _)
    have HO57 := Lib.hid (HO44.out.below HS55.out (by omega))
    clear HO44
    have HO58 := Lib.hid (HO45.out.below HS55.out (by omega))
    clear HO45
    have HO59 := Lib.hid (HO42.out.below HS55.out (by omega))
    clear HO42
    have HX60 := Lib.hid (HX46.out.below HS55.out HX46.out.lt)
    clear HX46
    have HB61 : Hid (Below w.heap.size w w52) := Lib.hid (HB47.out.trans (HS55.out.mono (by omega)))
    clear HB47
    clear HS55
    rw [hW53.out]
    clear hW53
    refine (L_eqMarked _ _ _ _ _ _ HO59.out.rd HO57.out.rd (by omega) (by omega) HO59.out.small).mono ?_
    rintro e w48 ⟨rfl, hx49⟩
    have z62 : w52.heap.size ≤ w48.heap.size := hx49.size
    have HS63 := Lib.hid hx49
    clear hx49
    have HO64 := Lib.hid (HO57.out.below HS63.out (by omega))
    clear HO57
    have HO65 := Lib.hid (HO58.out.below HS63.out (by omega))
    clear HO58
    have HO66 := Lib.hid (HO59.out.below HS63.out (by omega))
    clear HO59
    have HX67 := Lib.hid (HX60.out.below HS63.out HX60.out.lt)
    clear HX60
    have HX68 := Lib.hid (HX56.out.below HS63.out HX56.out.lt)
    clear HX56
    have HB69 : Hid (Below w.heap.size w w48) := Lib.hid (HB61.out.trans (HS63.out.mono (by omega)))
    clear HB61
    clear HS63
    have fc75 : w48.cell? ⟨w9.heap.size, 0, none⟩ = some (.slice A0_w0_w9 n0_w0_w9 c0_w0_w9) := HX67.out.cell 0
    have fc76 : w48.cell? ⟨w9.heap.size, 1, none⟩ = some (.slice A1_w0_w9 n1_w0_w9 c1_w0_w9) := HX67.out.cell 1
    have fc77 : w48.cell? ⟨w37.heap.size, 0, none⟩ = some (.slice A0_g0_w37 n0_g0_w37 c0_g0_w37) := HX68.out.cell 0
    have fc78 : w48.cell? ⟨w37.heap.size, 1, none⟩ = some (.slice A1_g0_w37 n1_g0_w37 c1_g0_w37) := HX68.out.cell 1
    go_wp2_with fail
    refine (L_toIntS _ _ _ _ (RdIntS.below Ha_aTape.out HB69.out) HB69.out.size hs_aTape).mono ?_
    rintro e w71 ⟨v70, rfl, hx79, hy80⟩
    have z74 : w48.heap.size ≤ w71.heap.size := hy80.size
    have HO72 := Lib.hid hx79
    have HS73 := Lib.hid hy80
    clear hx79 hy80
    clear fc75 fc76 fc77 fc78
    have HO81 := Lib.hid (HO64.out.below HS73.out (by omega))
    clear HO64
    have HO82 := Lib.hid (HO65.out.below HS73.out (by omega))
    clear HO65
    have HO83 := Lib.hid (HO66.out.below HS73.out (by omega))
    clear HO66
    have HX84 := Lib.hid (HX67.out.below HS73.out HX67.out.lt)
    clear HX67
    have HX85 := Lib.hid (HX68.out.below HS73.out HX68.out.lt)
    clear HX68
    have HB86 : Hid (Below w.heap.size w w71) := Lib.hid (HB69.out.trans (HS73.out.mono (by omega)))
    clear HB69
    clear HS73
    have fc89 : w71.cell? ⟨w9.heap.size, 0, none⟩ = some (.slice A0_w0_w9 n0_w0_w9 c0_w0_w9) := HX84.out.cell 0
    have fc90 : w71.cell? ⟨w9.heap.size, 1, none⟩ = some (.slice A1_w0_w9 n1_w0_w9 c1_w0_w9) := HX84.out.cell 1
    have fc91 : w71.cell? ⟨w37.heap.size, 0, none⟩ = some (.slice A0_g0_w37 n0_g0_w37 c0_g0_w37) := HX85.out.cell 0
    have fc92 : w71.cell? ⟨w37.heap.size, 1, none⟩ = some (.slice A1_g0_w37 n1_g0_w37 c1_g0_w37) := HX85.out.cell 1
    go_wp2_with fail
    refine (L_eqIntS _ _ _ _ _ _ HO82.out.rd HO72.out.rd (by omega) (by omega) HO82.out.small).mono ?_
    rintro e w87 ⟨rfl, hx88⟩
    have z93 : w71.heap.size ≤ w87.heap.size := hx88.size
    have HS94 := Lib.hid hx88
    clear hx88
    clear fc89 fc90 fc91 fc92
    have HO95 := Lib.hid (HO81.out.below HS94.out (by omega))
    clear HO81
    have HO96 := Lib.hid (HO82.out.below HS94.out (by omega))
    clear HO82
    have HO97 := Lib.hid (HO83.out.below HS94.out (by omega))
    clear HO83
    have HO98 := Lib.hid (HO72.out.below HS94.out (by omega))
    clear HO72
    have HX99 := Lib.hid (HX84.out.below HS94.out HX84.out.lt)
    clear HX84
    have HX100 := Lib.hid (HX85.out.below HS94.out HX85.out.lt)
    clear HX85
    have HB101 : Hid (Below w.heap.size w w87) := Lib.hid (HB86.out.trans (HS94.out.mono (by omega)))
    clear HB86
    clear HS94
    clear HO98
    have fc110 : w87.cell? ⟨w9.heap.size, 0, none⟩ = some (.slice A0_w0_w9 n0_w0_w9 c0_w0_w9) := HX99.out.cell 0
    have fc111 : w87.cell? ⟨w9.heap.size, 1, none⟩ = some (.slice A1_w0_w9 n1_w0_w9 c1_w0_w9) := HX99.out.cell 1
    have fc112 : w87.cell? ⟨w37.heap.size, 0, none⟩ = some (.slice A0_g0_w37 n0_g0_w37 c0_g0_w37) := HX100.out.cell 0
    have fc113 : w87.cell? ⟨w37.heap.size, 1, none⟩ = some (.slice A1_g0_w37 n1_g0_w37 c1_g0_w37) := HX100.out.cell 1
    go_wp2_with fail
    refine (L_markIntS _ _ _ _ _ _ HO96.out (by omega) (by omega) (by omega)).mono ?_
    rintro e w102 ⟨K103, rfl, hk104, h0_105, h1_106, hx107, hy108⟩
    have z109 : w87.heap.size ≤ w102.heap.size := hy108.size
    have HO114 := Lib.hid hx107
    have HS115 := Lib.hid hy108
    clear hx107 hy108
    clear fc110 fc111 fc112 fc113
    have HO116 := Lib.hid (HO95.out.kept HS115.out (by omega) (by omega))
    clear HO95
    have HO117 := Lib.hid (HO97.out.kept HS115.out (by omega) (by omega))
    clear HO97
    have HX118 := Lib.hid (HX99.out.kept HS115.out (by omega))
    clear HX99
    have HX119 := Lib.hid (HX100.out.kept HS115.out (by omega))
    clear HX100
    have HB120 : Hid (Below w.heap.size w w102) := Lib.hid (HB101.out.trans ((HS115.out.to_below (by omega)).mono (by omega)))
    clear HB101
    clear HS115 HO96
    clear HO114
    have fc123 : w102.cell? ⟨w9.heap.size, 0, none⟩ = some (.slice A0_w0_w9 n0_w0_w9 c0_w0_w9) := HX118.out.cell 0
    have fc124 : w102.cell? ⟨w9.heap.size, 1, none⟩ = some (.slice A1_w0_w9 n1_w0_w9 c1_w0_w9) := HX118.out.cell 1
    have fc125 : w102.cell? ⟨w37.heap.size, 0, none⟩ = some (.slice A0_g0_w37 n0_g0_w37 c0_g0_w37) := HX119.out.cell 0
    have fc126 : w102.cell? ⟨w37.heap.size, 1, none⟩ = some (.slice A1_g0_w37 n1_g0_w37 c1_g0_w37) := HX119.out.cell 1
    go_wp2_with fail
    refine (L_eqMarked _ _ _ _ _ _ HO117.out.rd HO116.out.rd (by omega) (by omega) HO117.out.small).mono ?_
    rintro e w121 ⟨rfl, hx122⟩
    have z127 : w102.heap.size ≤ w121.heap.size := hx122.size
    have HS128 := Lib.hid hx122
    clear hx122
    clear fc123 fc124 fc125 fc126
    have HO129 := Lib.hid (HO116.out.below HS128.out (by omega))
    clear HO116
    have HO130 := Lib.hid (HO117.out.below HS128.out (by omega))
    clear HO117
    have HX131 := Lib.hid (HX118.out.below HS128.out HX118.out.lt)
    clear HX118
    have HX132 := Lib.hid (HX119.out.below HS128.out HX119.out.lt)
    clear HX119
    have HB133 : Hid (Below w.heap.size w w121) := Lib.hid (HB120.out.trans (HS128.out.mono (by omega)))
    clear HB120
    clear HS128
    have hs134 := HO130.out.small
    have fc143 : w121.cell? ⟨w9.heap.size, 0, none⟩ = some (.slice A0_w0_w9 n0_w0_w9 c0_w0_w9) := HX131.out.cell 0
    have fc144 : w121.cell? ⟨w9.heap.size, 1, none⟩ = some (.slice A1_w0_w9 n1_w0_w9 c1_w0_w9) := HX131.out.cell 1
    have fc145 : w121.cell? ⟨w37.heap.size, 0, none⟩ = some (.slice A0_g0_w37 n0_g0_w37 c0_g0_w37) := HX132.out.cell 0
    have fc146 : w121.cell? ⟨w37.heap.size, 1, none⟩ = some (.slice A1_g0_w37 n1_g0_w37 c1_g0_w37) := HX132.out.cell 1
    go_wp2_with fail
    refine (L_markMarked _ _ _ _ _ _ HO130.out (by omega) (by omega) (by omega)).mono ?_
    rintro e w135 ⟨K136, rfl, hk137, h0_138, h1_139, hx140, hy141⟩
    have z142 : w121.heap.size ≤ w135.heap.size := hy141.size
    have HO147 := Lib.hid hx140
    have HS148 := Lib.hid hy141
    clear hx140 hy141
    clear fc143 fc144 fc145 fc146
    have HO149 := Lib.hid (HO129.out.kept HS148.out (by omega) (by omega))
    clear HO129
    have HX150 := Lib.hid (HX131.out.kept HS148.out (by omega))
    clear HX131
    have HX151 := Lib.hid (HX132.out.kept HS148.out (by omega))
    clear HX132
    have HB152 : Hid (Below w.heap.size w w135) := Lib.hid (HB133.out.trans ((HS148.out.to_below (by omega)).mono (by omega)))
    clear HB133
    clear HS148 HO130
    have fc159 : w135.cell? ⟨w9.heap.size, 0, none⟩ = some (.slice A0_w0_w9 n0_w0_w9 c0_w0_w9) := HX150.out.cell 0
    have fc160 : w135.cell? ⟨w9.heap.size, 1, none⟩ = some (.slice A1_w0_w9 n1_w0_w9 c1_w0_w9) := HX150.out.cell 1
    have fc161 : w135.cell? ⟨w37.heap.size, 0, none⟩ = some (.slice A0_g0_w37 n0_g0_w37 c0_g0_w37) := HX151.out.cell 0
    have fc162 : w135.cell? ⟨w37.heap.size, 1, none⟩ = some (.slice A1_g0_w37 n1_g0_w37 c1_g0_w37) := HX151.out.cell 1
    go_wp2_with fail
    refine (L_heldMarked _ _ (R_MarkedMake_0 aValue aKey aN d_aTape) 1 _ _ HO147.out.rd (by omega) hs134 (Lib.hid rfl) (by omega) (by omega)).mono ?_
    rintro e w153 ⟨K154, rfl, hk155, h0_156, h1_157, hx158⟩
    have z163 : w135.heap.size ≤ w153.heap.size := hx158.size
    have HS164 := Lib.hid hx158
    clear hx158
    have HE165 : Hid (K154 = K136) := Lib.hid (by rw [hk155.out, hk137.out])
    have hne166 : (K154 != K136) = false := by rw [HE165.out]; simp
    clear fc159 fc160 fc161 fc162
    have HO167 := Lib.hid (HO149.out.below HS164.out (by omega))
    clear HO149
    have HO168 := Lib.hid (HO147.out.below HS164.out (by omega))
    clear HO147
    have HX169 := Lib.hid (HX150.out.below HS164.out HX150.out.lt)
    clear HX150
    have HX170 := Lib.hid (HX151.out.below HS164.out HX151.out.lt)
    clear HX151
    have HB171 : Hid (Below w.heap.size w w153) := Lib.hid (HB152.out.trans (HS164.out.mono (by omega)))
    clear HB152
    clear HS164
    have fc177 : w153.cell? ⟨w9.heap.size, 0, none⟩ = some (.slice A0_w0_w9 n0_w0_w9 c0_w0_w9) := HX169.out.cell 0
    have fc178 : w153.cell? ⟨w9.heap.size, 1, none⟩ = some (.slice A1_w0_w9 n1_w0_w9 c1_w0_w9) := HX169.out.cell 1
    have fc179 : w153.cell? ⟨w37.heap.size, 0, none⟩ = some (.slice A0_g0_w37 n0_g0_w37 c0_g0_w37) := HX170.out.cell 0
    have fc180 : w153.cell? ⟨w37.heap.size, 1, none⟩ = some (.slice A1_g0_w37 n1_g0_w37 c1_g0_w37) := HX170.out.cell 1
    go_wp2_with fail
    refine (L_toIntS _ _ _ _ (RdIntS.below Ha_aTape.out HB171.out) HB171.out.size hs_aTape).mono ?_
    rintro e w173 ⟨v172, rfl, hx181, hy182⟩
    have z176 : w153.heap.size ≤ w173.heap.size := hy182.size
    have HO174 := Lib.hid hx181
    have HS175 := Lib.hid hy182
    clear hx181 hy182
    clear fc177 fc178 fc179 fc180
    have HO183 := Lib.hid (HO167.out.below HS175.out (by omega))
    clear HO167
    have HO184 := Lib.hid (HO168.out.below HS175.out (by omega))
    clear HO168
    have HX185 := Lib.hid (HX169.out.below HS175.out HX169.out.lt)
    clear HX169
    have HX186 := Lib.hid (HX170.out.below HS175.out HX170.out.lt)
    clear HX170
    have HB187 : Hid (Below w.heap.size w w173) := Lib.hid (HB171.out.trans (HS175.out.mono (by omega)))
    clear HB171
    clear HS175
    have fc188 : w173.cell? ⟨w9.heap.size, 0, none⟩ = some (.slice A0_w0_w9 n0_w0_w9 c0_w0_w9) := HX185.out.cell 0
    have fc189 : w173.cell? ⟨w9.heap.size, 1, none⟩ = some (.slice A1_w0_w9 n1_w0_w9 c1_w0_w9) := HX185.out.cell 1
    have fc190 : w173.cell? ⟨w37.heap.size, 0, none⟩ = some (.slice A0_g0_w37 n0_g0_w37 c0_g0_w37) := HX186.out.cell 0
    have fc191 : w173.cell? ⟨w37.heap.size, 1, none⟩ = some (.slice A1_g0_w37 n1_g0_w37 c1_g0_w37) := HX186.out.cell 1
    go_wp2_with fail
    refine (X_i_MarkedMake _ aValue aKey aN d_aTape _ _ _ HO174.out (by omega) hs_aTape).mono ?_
    rintro e w192 ⟨h0_w192, rfl, hx193, hy194⟩
    have z195 : w173.heap.size ≤ w192.heap.size := hy194.size
    obtain ⟨A0_h0_w192, n0_h0_w192, c0_h0_w192, A1_h0_w192, n1_h0_w192, c1_h0_w192, hv196⟩ : ∃ A0_h0_w192 n0_h0_w192 c0_h0_w192 A1_h0_w192 n1_h0_w192 c1_h0_w192, h0_w192 = .agg #[.slice A0_h0_w192 n0_h0_w192 c0_h0_w192, .slice A1_h0_w192 n1_h0_w192 c1_h0_w192] := by obtain ⟨_, _, _, _, _, _, _, _, _, _, _, rfl, _⟩ := hx193; exact ⟨_, _, _, _, _, _, rfl⟩
    subst hv196
    have HO197 := Lib.hid hx193
    clear hx193
    have HS198 := Lib.hid hy194
    clear hy194
    clear fc188 fc189 fc190 fc191
    have HO199 := Lib.hid (HO183.out.below HS198.out (by omega))
    clear HO183
    have HO200 := Lib.hid (HO184.out.below HS198.out (by omega))
    clear HO184
    have HO201 := Lib.hid (HO174.out.below HS198.out (by omega))
    clear HO174
    have HX202 := Lib.hid (HX185.out.below HS198.out HX185.out.lt)
    clear HX185
    have HX203 := Lib.hid (HX186.out.below HS198.out HX186.out.lt)
    clear HX186
    have HB204 : Hid (Below w.heap.size w w192) := Lib.hid (HB187.out.trans (HS198.out.mono (by omega)))
    clear HB187
    clear HS198
    clear HO201
    have fc207 : (w192.alloc (.cells #[.slice A0_h0_w192 n0_h0_w192 c0_h0_w192, .slice A1_h0_w192 n1_h0_w192 c1_h0_w192] 24)).cell? ⟨w9.heap.size, 0, none⟩ = some (.slice A0_w0_w9 n0_w0_w9 c0_w0_w9) := (HX202.out.alloc _).cell 0
    have fc208 : (w192.alloc (.cells #[.slice A0_h0_w192 n0_h0_w192 c0_h0_w192, .slice A1_h0_w192 n1_h0_w192 c1_h0_w192] 24)).cell? ⟨w9.heap.size, 1, none⟩ = some (.slice A1_w0_w9 n1_w0_w9 c1_w0_w9) := (HX202.out.alloc _).cell 1
    have fc209 : (w192.alloc (.cells #[.slice A0_h0_w192 n0_h0_w192 c0_h0_w192, .slice A1_h0_w192 n1_h0_w192 c1_h0_w192] 24)).cell? ⟨w37.heap.size, 0, none⟩ = some (.slice A0_g0_w37 n0_g0_w37 c0_g0_w37) := (HX203.out.alloc _).cell 0
    have fc210 : (w192.alloc (.cells #[.slice A0_h0_w192 n0_h0_w192 c0_h0_w192, .slice A1_h0_w192 n1_h0_w192 c1_h0_w192] 24)).cell? ⟨w37.heap.size, 1, none⟩ = some (.slice A1_g0_w37 n1_g0_w37 c1_g0_w37) := (HX203.out.alloc _).cell 1
    go_wp2_with fail
    clear fc207 fc208 fc209 fc210
    obtain ⟨w211, hW212⟩ : ∃ W, Hid (w192.alloc (.cells #[.slice A0_h0_w192 n0_h0_w192 c0_h0_w192, .slice A1_h0_w192 n1_h0_w192 c1_h0_w192] 24) = W) := ⟨_, Lib.hid rfl⟩
    have z213 : w211.heap.size = w192.heap.size + 1 := by rw [← hW212.out, World.size_alloc]
    have HS214 : Hid (Below w192.heap.size w192 w211) := Lib.hid (by rw [← hW212.out]; exact (Below.refl _ _).alloc (Nat.le_refl _) _)
    have HX215 : Hid (Bx w211 w192.heap.size #[.slice A0_h0_w192 n0_h0_w192 c0_h0_w192, .slice A1_h0_w192 n1_h0_w192 c1_h0_w192] 24) := Lib.hid (by rw [← hW212.out]; exact Bx.new _ _ _)
    have HO216 := Lib.hid (HO199.out.below HS214.out (by omega))
    clear HO199
    have HO217 := Lib.hid (HO200.out.below HS214.out (by omega))
    clear HO200
    have HO218 := Lib.hid (HO197.out.below HS214.out (by omega))
    clear HO197
    have HX219 := Lib.hid (HX202.out.below HS214.out HX202.out.lt)
    clear HX202
    have HX220 := Lib.hid (HX203.out.below HS214.out HX203.out.lt)
    clear HX203
    have HB221 : Hid (Below w.heap.size w w211) := Lib.hid (HB204.out.trans (HS214.out.mono (by omega)))
    clear HB204
    clear HS214
    rw [hW212.out]
    clear hW212
    refine (L_eqMarked _ _ _ _ _ _ HO218.out.rd HO216.out.rd (by omega) (by omega) HO218.out.small).mono ?_
    rintro e w205 ⟨rfl, hx206⟩
    have z222 : w211.heap.size ≤ w205.heap.size := hx206.size
    have HS223 := Lib.hid hx206
    clear hx206
    have HO224 := Lib.hid (HO216.out.below HS223.out (by omega))
    clear HO216
    have HO225 := Lib.hid (HO217.out.below HS223.out (by omega))
    clear HO217
    have HO226 := Lib.hid (HO218.out.below HS223.out (by omega))
    clear HO218
    have HX227 := Lib.hid (HX219.out.below HS223.out HX219.out.lt)
    clear HX219
    have HX228 := Lib.hid (HX220.out.below HS223.out HX220.out.lt)
    clear HX220
    have HX229 := Lib.hid (HX215.out.below HS223.out HX215.out.lt)
    clear HX215
    have HB230 : Hid (Below w.heap.size w w205) := Lib.hid (HB221.out.trans (HS223.out.mono (by omega)))
    clear HB221
    clear HS223
    have fc237 : w205.cell? ⟨w9.heap.size, 0, none⟩ = some (.slice A0_w0_w9 n0_w0_w9 c0_w0_w9) := HX227.out.cell 0
    have fc238 : w205.cell? ⟨w9.heap.size, 1, none⟩ = some (.slice A1_w0_w9 n1_w0_w9 c1_w0_w9) := HX227.out.cell 1
    have fc239 : w205.cell? ⟨w37.heap.size, 0, none⟩ = some (.slice A0_g0_w37 n0_g0_w37 c0_g0_w37) := HX228.out.cell 0
    have fc240 : w205.cell? ⟨w37.heap.size, 1, none⟩ = some (.slice A1_g0_w37 n1_g0_w37 c1_g0_w37) := HX228.out.cell 1
    have fc241 : w205.cell? ⟨w192.heap.size, 0, none⟩ = some (.slice A0_h0_w192 n0_h0_w192 c0_h0_w192) := HX229.out.cell 0
    have fc242 : w205.cell? ⟨w192.heap.size, 1, none⟩ = some (.slice A1_h0_w192 n1_h0_w192 c1_h0_w192) := HX229.out.cell 1
    go_wp2_with fail
    refine (L_heldMarked _ _ (R_MarkedMake_0 aValue aKey aN d_aTape) 1 _ _ HO225.out.rd (by omega) hs134 (Lib.hid rfl) (by omega) (by omega)).mono ?_
    rintro e w231 ⟨K232, rfl, hk233, h0_234, h1_235, hx236⟩
    have z243 : w205.heap.size ≤ w231.heap.size := hx236.size
    have HS244 := Lib.hid hx236
    clear hx236
    have HE245 : Hid (K232 = K136) := Lib.hid (by rw [hk233.out, hk137.out])
    have hne246 : (K232 != K136) = false := by rw [HE245.out]; simp
    clear fc237 fc238 fc239 fc240 fc241 fc242
    have HO247 := Lib.hid (HO224.out.below HS244.out (by omega))
    clear HO224
    have HO248 := Lib.hid (HO225.out.below HS244.out (by omega))
    clear HO225
    have HO249 := Lib.hid (HO226.out.below HS244.out (by omega))
    clear HO226
    have HX250 := Lib.hid (HX227.out.below HS244.out HX227.out.lt)
    clear HX227
    have HX251 := Lib.hid (HX228.out.below HS244.out HX228.out.lt)
    clear HX228
    have HX252 := Lib.hid (HX229.out.below HS244.out HX229.out.lt)
    clear HX229
    have HB253 : Hid (Below w.heap.size w w231) := Lib.hid (HB230.out.trans (HS244.out.mono (by omega)))
    clear HB230
    clear HS244
    go_wp2
    go_ret
    exact ⟨rfl, HB253.out⟩
  · have hn_aTape : ¬ n_aTape ≤ 1048576 := by have := h_aTape.len; unfold szIntS at hs_aTape; omega
    go_enter Try.func3, Try.ntmps3
    go_wp2
    go_ret
    exact ⟨rfl, by first | exact Below.refl _ _ | exact (Below.refl _ _).alloc (Nat.le_refl _) _ | exact ((Below.refl _ _).alloc (Nat.le_refl _) _).alloc (by simp) _⟩

set_option maxRecDepth 100000 in
theorem lifted (os : Os) (started : os.Started) (H : Type) (enc : TypeId × Value → H) :
    ReturnsInHanded {} Try.checked os 3 .any (Rows.fnExactMarkedMakeSpec.pre6 enc Try.prog Try.f3 Rows.fnExactMarkedMakeRow.domain false) (Rows.fnExactMarkedMakeSpec.post enc Try.prog Try.f3 false true false false) := by
  refine returnsInHanded_of_change (C := Try.checked) own started (by kernel_rfl) Try.func3
    (ChangeSpec.witness6 (enc := enc) (C := Try.checked) false ⟨#[], #[.int .i64 0, .int .i64 0, .int .i64 0, .slice none 0 0], []⟩ 8 (by kernel_rfl) (by kernel_rfl) (by kernel_rfl) (by kernel_rfl)) ?_
  intro W base args ds gs before hval0 hW hcnd _
  have hval : ∀ (j : Nat) t v, Try.f3.params[j]? = some t → args[j]? = some v → Value.okWide Try.prog W .any base t v := hval0
  have hW' := hW
  obtain ⟨p, q, hA0, hV, rfl, hfz, hnd⟩ := hW
  have hA : DataW.TrodAll enc Try.prog W 0 (fun _ => true) true Try.f3.params.toList args.toList ds p := hA0
  rw [Try.params3] at hA hval
  obtain ⟨v0, vs0, dd0, ds0, p0, q0, hargs, rfl, rfl, h0, r0⟩ := trodAll_cons hA
  obtain ⟨v1, vs1, dd1, ds1, p1, q1, rfl, rfl, rfl, h1, r1⟩ := trodAll_cons r0
  obtain ⟨v2, vs2, dd2, ds2, p2, q2, rfl, rfl, rfl, h2, r2⟩ := trodAll_cons r1
  obtain ⟨v3, vs3, dd3, ds3, p3, q3, rfl, rfl, rfl, h3, r3⟩ := trodAll_cons r2
  obtain ⟨rfl, rfl, rfl⟩ := trodAll_nil r3
  obtain rfl : args = #[v0, v1, v2, v3] := by cases args; simp_all
  obtain ⟨rfl, rfl⟩ := trodVars_none hV
  obtain ⟨aValue, rfl, rfl, rfl, w_aValue⟩ := open_int Try.underlying3 (hval 0 3 v0 rfl rfl) h0
  obtain ⟨aKey, rfl, rfl, rfl, w_aKey⟩ := open_int Try.underlying3 (hval 1 3 v1 rfl rfl) h1
  obtain ⟨aN, rfl, rfl, rfl, w_aN⟩ := open_int Try.underlying3 (hval 2 3 v2 rfl rfl) h2
  obtain ⟨A_aTape, n_aTape, c_aTape, d_aTape, rfl, hm_aTape, h_aTape⟩ := open_intS Try.underlying22 Try.underlying3 (by kernel_rfl) (hval 3 22 v3 rfl rfl) h3
  refine (walk aValue aKey aN A_aTape n_aTape c_aTape d_aTape W w_aValue w_aKey w_aN hm_aTape h_aTape).mono fun e W' ⟨he, hb⟩ => ?_
  subst he
  exact ⟨_, rfl, post_law rfl rfl Try.underlying4 (by kernel_rfl) (by kernel_rfl) hW' rfl hb⟩

theorem closed : joinedFacts Try.prog 3 Try.f3 Rows.fnExactMarkedMakeSpec Rows.fnExactMarkedMakeRow = true := joined_of (by kernel_rfl)
theorem over : Rows.fnExactMarkedMakeRow.holds Try.pinned (OpenSpec.ofChange Rows.fnExactMarkedMakeSpec) :=
  OpenClaim.holds_of_wide 3 Try.f3 rfl rfl rfl rfl rfl rfl rfl ⟨rfl, rfl, rfl, rfl, rfl⟩ rfl rfl rfl rfl rfl (by kernel_rfl) Try.func3 closed
    (of_decide_eq_true (by kernel_rfl)) (by unfold Func.isWrapper; first | (rw [if_pos (by decide +kernel)]; kernel_rfl) | (rw [if_neg (by decide +kernel)]; exact ⟨rfl, rfl⟩))
    (fun os started H enc _ => lifted os started H enc)
/-- the statement -/
theorem proved : Rows.FnExactMarkedMakeSaid :=
  over
end Go.Proofs.Ythfkjaofgpgoeaa.fnExactMarkedMake
