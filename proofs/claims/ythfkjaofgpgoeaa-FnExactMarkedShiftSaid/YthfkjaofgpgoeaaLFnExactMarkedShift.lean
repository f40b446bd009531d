/- FnExactMarkedShift answers true at every input: at each argument the function and its model answer alike, no argument is written, and the answer owns its memory. No condition. -/
import Derived.Test.YthfkjaofgpgoeaaRows
import Derived.Test.YthfkjaofgpgoeaaLaw
import Derived.Test.YthfkjaofgpgoeaaDoor
import Derived.Test.YthfkjaofgpgoeaaMFnExactMarkedMake
namespace Go.Proofs.Ythfkjaofgpgoeaa.fnExactMarkedShift
open Go.ChangeShapes Go.WideShapes Go.ChangeAt Go.RowKit
theorem own : ownKnob Try.prog.godebug = none := by kernel_rfl
set_option maxRecDepth 100000 in
set_option maxHeartbeats 4000000 in
theorem walk (A0_aX : Option Addr) (n0_aX c0_aX : Nat) (A1_aX : Option Addr) (n1_aX c1_aX : Nat) (d0_aX : List Int) (d1_aX : List Int) (aBy : Int) (A_aKey : Option Addr) (n_aKey c_aKey : Nat) (d_aKey : List Int) (w : World) (h0_aX : RdIntS w w.heap.size (.slice A0_aX n0_aX c0_aX) d0_aX) (h1_aX : RdIntS w w.heap.size (.slice A1_aX n1_aX c1_aX) d1_aX) (_w_aBy : (Lit.int .i64 aBy).wf = true) (hm_aKey : n_aKey ≤ 9223372036854775807) (h_aKey : Rd w w.heap.size 1 A_aKey n_aKey (cI d_aKey)) :
    Calls Try.prog 9 #[.agg #[.slice A0_aX n0_aX c0_aX, .slice A1_aX n1_aX c1_aX], .int .i64 aBy, .slice A_aKey n_aKey c_aKey] w fun e w' => e = .returned (.bool true) ∧ Below w.heap.size w w' := by
  by_cases hs_aKey : szIntS d_aKey ≤ 1048576
  · have hn_aKey : n_aKey ≤ 1048576 := by have := h_aKey.len; unfold szIntS at hs_aKey; omega
    obtain ⟨d_aX, hd_aX⟩ : ∃ d, d = (d0_aX, d1_aX) := ⟨_, rfl⟩
    have Ha_aX : Hid (RdMarked w w.heap.size (.agg #[.slice A0_aX n0_aX c0_aX, .slice A1_aX n1_aX c1_aX]) d_aX) := Lib.hid (by rw [hd_aX]; exact ⟨_, _, _, _, _, _, rfl, h0_aX, h1_aX⟩)
    have Ha_aKey : Hid (RdIntS w w.heap.size (.slice A_aKey n_aKey c_aKey) d_aKey) := Lib.hid (⟨A_aKey, n_aKey, c_aKey, rfl, hm_aKey, h_aKey⟩)
    clear h0_aX h1_aX hd_aX h_aKey
    go_enter Try.func9, Try.ntmps9
    obtain ⟨W0, hW0⟩ : ∃ W, Hid ((w.alloc (.cells #[.slice A0_aX n0_aX c0_aX, .slice A1_aX n1_aX c1_aX] 33)) = W) := ⟨_, Lib.hid rfl⟩
    have HB_0 : Hid (Below w.heap.size w W0) := Lib.hid (by rw [← hW0.out]; exact (Below.refl _ _).alloc (Nat.le_refl _) _)
    have z_0 : W0.heap.size = w.heap.size + 1 := by rw [← hW0.out]; simp only [World.size_alloc]
    have HX_aX : Hid (Bx W0 (w.heap.size) #[.slice A0_aX n0_aX c0_aX, .slice A1_aX n1_aX c1_aX] 33) := Lib.hid (by rw [← hW0.out]; have := Bx.new w #[.slice A0_aX n0_aX c0_aX, .slice A1_aX n1_aX c1_aX] 33; exact this)
    go_wp2_with fail
    rw [hW0.out]
    clear hW0
    rcases Int.lt_or_le 1048576 (szMarked d_aX : Nat) with hl1 | hl1
    · refine (L_szMarked_no _ _ _ _ _ (RdMarked.below Ha_aX.out HB_0.out) (by omega) (by omega) (by omega) hl1).mono ?_
      rintro e w' ⟨rfl, hb⟩
      have hb2 := Lib.hid (HB_0.out.trans (hb.mono (by omega)))
      clear hb
      go_wp2
      go_ret
      exact ⟨rfl, hb2.out⟩
    refine (L_szMarked_ok _ _ _ _ _ (RdMarked.below Ha_aX.out HB_0.out) (by omega) (by omega) (by omega) hl1).mono ?_
    rintro e w2 ⟨L3, rfl, hx6, h0_4, h1_5, hy7⟩
    have hs_aX : szMarked d_aX ≤ 1048576 := by omega
    have z8 : W0.heap.size ≤ w2.heap.size := hy7.size
    have HS9 := Lib.hid hy7
    clear hy7
    have HX10 := Lib.hid (HX_aX.out.below HS9.out HX_aX.out.lt)
    clear HX_aX
    have HB11 : Hid (Below w.heap.size w w2) := Lib.hid (HB_0.out.trans (HS9.out.mono (by omega)))
    clear HB_0
    clear HS9
    have fc17 : w2.cell? ⟨w.heap.size, 0, none⟩ = some (.slice A0_aX n0_aX c0_aX) := HX10.out.cell 0
    have fc18 : w2.cell? ⟨w.heap.size, 1, none⟩ = some (.slice A1_aX n1_aX c1_aX) := HX10.out.cell 1
    go_wp2_with fail
    refine (L_toMarked _ _ _ _ (RdMarked.below Ha_aX.out HB11.out) HB11.out.size hs_aX).mono ?_
    rintro e w13 ⟨v12, rfl, hx19, hy20⟩
    have z16 : w2.heap.size ≤ w13.heap.size := hy20.size
    obtain ⟨A0_v12, n0_v12, c0_v12, A1_v12, n1_v12, c1_v12, hv21⟩ : ∃ A0_v12 n0_v12 c0_v12 A1_v12 n1_v12 c1_v12, v12 = .agg #[.slice A0_v12 n0_v12 c0_v12, .slice A1_v12 n1_v12 c1_v12] := by obtain ⟨_, _, _, _, _, _, _, _, _, _, _, rfl, _⟩ := hx19; exact ⟨_, _, _, _, _, _, rfl⟩
    subst hv21
    have HO14 := Lib.hid hx19
    have HS15 := Lib.hid hy20
    clear hx19 hy20
    clear fc17 fc18
    have HX22 := Lib.hid (HX10.out.below HS15.out HX10.out.lt)
    clear HX10
    have HB23 : Hid (Below w.heap.size w w13) := Lib.hid (HB11.out.trans (HS15.out.mono (by omega)))
    clear HB11
    clear HS15
    have fc29 : w13.cell? ⟨w.heap.size, 0, none⟩ = some (.slice A0_aX n0_aX c0_aX) := HX22.out.cell 0
    have fc30 : w13.cell? ⟨w.heap.size, 1, none⟩ = some (.slice A1_aX n1_aX c1_aX) := HX22.out.cell 1
    go_wp2_with fail
    refine (L_toIntS _ _ _ _ (RdIntS.below Ha_aKey.out HB23.out) HB23.out.size hs_aKey).mono ?_
    rintro e w25 ⟨v24, rfl, hx31, hy32⟩
    have z28 : w13.heap.size ≤ w25.heap.size := hy32.size
    have HO26 := Lib.hid hx31
    have HS27 := Lib.hid hy32
    clear hx31 hy32
    clear fc29 fc30
    have HO33 := Lib.hid (HO14.out.below HS27.out (by omega))
    clear HO14
    have HX34 := Lib.hid (HX22.out.below HS27.out HX22.out.lt)
    clear HX22
    have HB35 : Hid (Below w.heap.size w w25) := Lib.hid (HB23.out.trans (HS27.out.mono (by omega)))
    clear HB23
    clear HS27
    have fc36 : w25.cell? ⟨w.heap.size, 0, none⟩ = some (.slice A0_aX n0_aX c0_aX) := HX34.out.cell 0
    have fc37 : w25.cell? ⟨w.heap.size, 1, none⟩ = some (.slice A1_aX n1_aX c1_aX) := HX34.out.cell 1
    go_wp2_with fail
    refine (X_s_MarkedShift _ _ d_aX aBy d_aKey _ (HO33.out.rd.more (by omega)) (HO26.out.rd.more (by omega)) hs_aX hs_aKey).mono ?_
    rintro e w38 ⟨w0_w38, rfl, hx39, hy40⟩
    have z41 : w25.heap.size ≤ w38.heap.size := hy40.size
    obtain ⟨A0_w0_w38, n0_w0_w38, c0_w0_w38, A1_w0_w38, n1_w0_w38, c1_w0_w38, hv42⟩ : ∃ A0_w0_w38 n0_w0_w38 c0_w0_w38 A1_w0_w38 n1_w0_w38 c1_w0_w38, w0_w38 = .agg #[.slice A0_w0_w38 n0_w0_w38 c0_w0_w38, .slice A1_w0_w38 n1_w0_w38 c1_w0_w38] := by obtain ⟨_, _, _, _, _, _, _, _, _, _, _, rfl, _⟩ := hx39; exact ⟨_, _, _, _, _, _, rfl⟩
    subst hv42
    have HO43 := Lib.hid hx39
    clear hx39
    have HS44 := Lib.hid hy40
    clear hy40
    clear fc36 fc37
    have HO45 := Lib.hid (HO33.out.below HS44.out (by omega))
    clear HO33
    have HO46 := Lib.hid (HO26.out.below HS44.out (by omega))
    clear HO26
    have HX47 := Lib.hid (HX34.out.below HS44.out HX34.out.lt)
    clear HX34
    have HB48 : Hid (Below w.heap.size w w38) := Lib.hid (HB35.out.trans (HS44.out.mono (by omega)))
    clear HB35
    clear HS44
    clear HO45
    clear HO46
    have fc54 : (w38.alloc (.cells #[.slice A0_w0_w38 n0_w0_w38 c0_w0_w38, .slice A1_w0_w38 n1_w0_w38 c1_w0_w38] 24)).cell? ⟨w.heap.size, 0, none⟩ = some (.slice A0_aX n0_aX c0_aX) := (HX47.out.alloc _).cell 0
    have fc55 : (w38.alloc (.cells #[.slice A0_w0_w38 n0_w0_w38 c0_w0_w38, .slice A1_w0_w38 n1_w0_w38 c1_w0_w38] 24)).cell? ⟨w.heap.size, 1, none⟩ = some (.slice A1_aX n1_aX c1_aX) := (HX47.out.alloc _).cell 1
    go_wp2_with fail
    clear fc54 fc55
    obtain ⟨w56, hW57⟩ : ∃ W, Hid (w38.alloc (.cells #[.slice A0_w0_w38 n0_w0_w38 c0_w0_w38, .slice A1_w0_w38 n1_w0_w38 c1_w0_w38] 24) = W) := ⟨_, Lib.hid rfl⟩
    have z58 : w56.heap.size = w38.heap.size + 1 := by rw [← hW57.out, World.size_alloc]
    have HS59 : Hid (Below w38.heap.size w38 w56) := Lib.hid (by rw [← hW57.out]; exact (Below.refl _ _).alloc (Nat.le_refl _) _)
    have HX60 : Hid (Bx w56 w38.heap.size #[.slice A0_w0_w38 n0_w0_w38 c0_w0_w38, .slice A1_w0_w38 n1_w0_w38 c1_w0_w38] 24) := Lib.hid (by rw [← hW57.out]; exact Bx.new _ _ _)
    have HO61 := Lib.hid (HO43.out.below HS59.out (by omega))
    clear HO43
    have HX62 := Lib.hid (HX47.out.below HS59.out HX47.out.lt)
    clear HX47
    have HB63 : Hid (Below w.heap.size w w56) := Lib.hid (HB48.out.trans (HS59.out.mono (by omega)))
    clear HB48
    clear HS59
    rw [hW57.out]
    clear hW57
    refine (L_toMarked _ _ _ _ (RdMarked.below Ha_aX.out HB63.out) HB63.out.size hs_aX).mono ?_
    rintro e w50 ⟨v49, rfl, hx64, hy65⟩
    have z53 : w56.heap.size ≤ w50.heap.size := hy65.size
    obtain ⟨A0_v49, n0_v49, c0_v49, A1_v49, n1_v49, c1_v49, hv66⟩ : ∃ A0_v49 n0_v49 c0_v49 A1_v49 n1_v49 c1_v49, v49 = .agg #[.slice A0_v49 n0_v49 c0_v49, .slice A1_v49 n1_v49 c1_v49] := by obtain ⟨_, _, _, _, _, _, _, _, _, _, _, rfl, _⟩ := hx64; exact ⟨_, _, _, _, _, _, rfl⟩
    subst hv66
    have HO51 := Lib.hid hx64
    have HS52 := Lib.hid hy65
    clear hx64 hy65
    have HO67 := Lib.hid (HO61.out.below HS52.out (by omega))
    clear HO61
    have HX68 := Lib.hid (HX62.out.below HS52.out HX62.out.lt)
    clear HX62
    have HX69 := Lib.hid (HX60.out.below HS52.out HX60.out.lt)
    clear HX60
    have HB70 : Hid (Below w.heap.size w w50) := Lib.hid (HB63.out.trans (HS52.out.mono (by omega)))
    clear HB63
    clear HS52
    have fc76 : (w50.alloc (.cells #[.slice A0_v49 n0_v49 c0_v49, .slice A1_v49 n1_v49 c1_v49] 24)).cell? ⟨w.heap.size, 0, none⟩ = some (.slice A0_aX n0_aX c0_aX) := (HX68.out.alloc _).cell 0
    have fc77 : (w50.alloc (.cells #[.slice A0_v49 n0_v49 c0_v49, .slice A1_v49 n1_v49 c1_v49] 24)).cell? ⟨w.heap.size, 1, none⟩ = some (.slice A1_aX n1_aX c1_aX) := (HX68.out.alloc _).cell 1
    have fc78 : (w50.alloc (.cells #[.slice A0_v49 n0_v49 c0_v49, .slice A1_v49 n1_v49 c1_v49] 24)).cell? ⟨w38.heap.size, 0, none⟩ = some (.slice A0_w0_w38 n0_w0_w38 c0_w0_w38) := (HX69.out.alloc _).cell 0
    have fc79 : (w50.alloc (.cells #[.slice A0_v49 n0_v49 c0_v49, .slice A1_v49 n1_v49 c1_v49] 24)).cell? ⟨w38.heap.size, 1, none⟩ = some (.slice A1_w0_w38 n1_w0_w38 c1_w0_w38) := (HX69.out.alloc _).cell 1
    go_wp2_with fail
    clear fc76 fc77 fc78 fc79
    obtain ⟨w80, hW81⟩ : ∃ W, Hid (w50.alloc (.cells #[.slice A0_v49 n0_v49 c0_v49, .slice A1_v49 n1_v49 c1_v49] 24) = W) := ⟨_, Lib.hid rfl⟩
    have z82 : w80.heap.size = w50.heap.size + 1 := by rw [← hW81.out, World.size_alloc]
    have HS83 : Hid (Below w50.heap.size w50 w80) := Lib.hid (by rw [← hW81.out]; exact (Below.refl _ _).alloc (Nat.le_refl _) _)
    have HX84 : Hid (Bx w80 w50.heap.size #[.slice A0_v49 n0_v49 c0_v49, .slice A1_v49 n1_v49 c1_v49] 24) := Lib.hid (by rw [← hW81.out]; exact Bx.new _ _ _)
    have HO85 := Lib.hid (HO67.out.below HS83.out (by omega))
    clear HO67
    have HO86 := Lib.hid (HO51.out.below HS83.out (by omega))
    clear HO51
    have HX87 := Lib.hid (HX68.out.below HS83.out HX68.out.lt)
    clear HX68
    have HX88 := Lib.hid (HX69.out.below HS83.out HX69.out.lt)
    clear HX69
    have HB89 : Hid (Below w.heap.size w w80) := Lib.hid (HB70.out.trans (HS83.out.mono (by omega)))
    clear HB70
    clear HS83
    rw [hW81.out]
    clear hW81
    refine (L_toIntS _ _ _ _ (RdIntS.below Ha_aKey.out HB89.out) HB89.out.size hs_aKey).mono ?_
    rintro e w72 ⟨v71, rfl, hx90, hy91⟩
    have z75 : w80.heap.size ≤ w72.heap.size := hy91.size
    have HO73 := Lib.hid hx90
    have HS74 := Lib.hid hy91
    clear hx90 hy91
    have HO92 := Lib.hid (HO85.out.below HS74.out (by omega))
    clear HO85
    have HO93 := Lib.hid (HO86.out.below HS74.out (by omega))
    clear HO86
    have HX94 := Lib.hid (HX87.out.below HS74.out HX87.out.lt)
    clear HX87
    have HX95 := Lib.hid (HX88.out.below HS74.out HX88.out.lt)
    clear HX88
    have HX96 := Lib.hid (HX84.out.below HS74.out HX84.out.lt)
    clear HX84
    have HB97 : Hid (Below w.heap.size w w72) := Lib.hid (HB89.out.trans (HS74.out.mono (by omega)))
    clear HB89
    clear HS74
    have fc98 : w72.cell? ⟨w.heap.size, 0, none⟩ = some (.slice A0_aX n0_aX c0_aX) := HX94.out.cell 0
    have fc99 : w72.cell? ⟨w.heap.size, 1, none⟩ = some (.slice A1_aX n1_aX c1_aX) := HX94.out.cell 1
    have fc100 : w72.cell? ⟨w38.heap.size, 0, none⟩ = some (.slice A0_w0_w38 n0_w0_w38 c0_w0_w38) := HX95.out.cell 0
    have fc101 : w72.cell? ⟨w38.heap.size, 1, none⟩ = some (.slice A1_w0_w38 n1_w0_w38 c1_w0_w38) := HX95.out.cell 1
    have fc102 : w72.cell? ⟨w50.heap.size, 0, none⟩ = some (.slice A0_v49 n0_v49 c0_v49) := HX96.out.cell 0
    have fc103 : w72.cell? ⟨w50.heap.size, 1, none⟩ = some (.slice A1_v49 n1_v49 c1_v49) := HX96.out.cell 1
    go_wp2_with fail
    refine (X_i_MarkedShift _ _ d_aX aBy d_aKey _ (HO93.out.rd.more (by omega)) (HO73.out.rd.more (by omega)) hs_aX hs_aKey).mono ?_
    rintro e w104 ⟨g0_w104, rfl, hx105, hy106⟩
    have z107 : w72.heap.size ≤ w104.heap.size := hy106.size
    obtain ⟨A0_g0_w104, n0_g0_w104, c0_g0_w104, A1_g0_w104, n1_g0_w104, c1_g0_w104, hv108⟩ : ∃ A0_g0_w104 n0_g0_w104 c0_g0_w104 A1_g0_w104 n1_g0_w104 c1_g0_w104, g0_w104 = .agg #[.slice A0_g0_w104 n0_g0_w104 c0_g0_w104, .slice A1_g0_w104 n1_g0_w104 c1_g0_w104] := by obtain ⟨_, _, _, _, _, _, _, _, _, _, _, rfl, _⟩ := hx105; exact ⟨_, _, _, _, _, _, rfl⟩
    subst hv108
    have HO109 := Lib.hid hx105
    clear hx105
    have HS110 := Lib.hid hy106
    clear hy106
    clear fc98 fc99 fc100 fc101 fc102 fc103
    have HO111 := Lib.hid (HO92.out.below HS110.out (by omega))
    clear HO92
    have HO112 := Lib.hid (HO93.out.below HS110.out (by omega))
    clear HO93
    have HO113 := Lib.hid (HO73.out.below HS110.out (by omega))
    clear HO73
    have HX114 := Lib.hid (HX94.out.below HS110.out HX94.out.lt)
    clear HX94
    have HX115 := Lib.hid (HX95.out.below HS110.out HX95.out.lt)
    clear HX95
    have HX116 := Lib.hid (HX96.out.below HS110.out HX96.out.lt)
    clear HX96
    have HB117 : Hid (Below w.heap.size w w104) := Lib.hid (HB97.out.trans (HS110.out.mono (by omega)))
    clear HB97
    clear HS110
    have fc120 : (w104.alloc (.cells #[.slice A0_g0_w104 n0_g0_w104 c0_g0_w104, .slice A1_g0_w104 n1_g0_w104 c1_g0_w104] 24)).cell? ⟨w.heap.size, 0, none⟩ = some (.slice A0_aX n0_aX c0_aX) := (HX114.out.alloc _).cell 0
    have fc121 : (w104.alloc (.cells #[.slice A0_g0_w104 n0_g0_w104 c0_g0_w104, .slice A1_g0_w104 n1_g0_w104 c1_g0_w104] 24)).cell? ⟨w.heap.size, 1, none⟩ = some (.slice A1_aX n1_aX c1_aX) := (HX114.out.alloc _).cell 1
    have fc122 : (w104.alloc (.cells #[.slice A0_g0_w104 n0_g0_w104 c0_g0_w104, .slice A1_g0_w104 n1_g0_w104 c1_g0_w104] 24)).cell? ⟨w38.heap.size, 0, none⟩ = some (.slice A0_w0_w38 n0_w0_w38 c0_w0_w38) := (HX115.out.alloc _).cell 0
    have fc123 : (w104.alloc (.cells #[.slice A0_g0_w104 n0_g0_w104 c0_g0_w104, .slice A1_g0_w104 n1_g0_w104 c1_g0_w104] 24)).cell? ⟨w38.heap.size, 1, none⟩ = some (.slice A1_w0_w38 n1_w0_w38 c1_w0_w38) := (HX115.out.alloc _).cell 1
    have fc124 : (w104.alloc (.cells #[.slice A0_g0_w104 n0_g0_w104 c0_g0_w104, .slice A1_g0_w104 n1_g0_w104 c1_g0_w104] 24)).cell? ⟨w50.heap.size, 0, none⟩ = some (.slice A0_v49 n0_v49 c0_v49) := (HX116.out.alloc _).cell 0
    have fc125 : (w104.alloc (.cells #[.slice A0_g0_w104 n0_g0_w104 c0_g0_w104, .slice A1_g0_w104 n1_g0_w104 c1_g0_w104] 24)).cell? ⟨w50.heap.size, 1, none⟩ = some (.slice A1_v49 n1_v49 c1_v49) := (HX116.out.alloc _).cell 1
    go_wp2_with fail
    clear fc120 fc121 fc122 fc123 fc124 fc125
    obtain ⟨w126, hW127⟩ : ∃ W, Hid (w104.alloc (.cells #[.slice A0_g0_w104 n0_g0_w104 c0_g0_w104, .slice A1_g0_w104 n1_g0_w104 c1_g0_w104] 24) = W) := ⟨_, Lib.hid rfl⟩
    have z128 : w126.heap.size = w104.heap.size + 1 := by rw [← hW127.out, World.size_alloc]
    have HS129 : Hid (Below w104.heap.size w104 w126) := Lib.hid (by rw [← hW127.out]; exact (Below.refl _ _).alloc (Nat.le_refl _) _)
    have HX130 : Hid (Bx w126 w104.heap.size #[.slice A0_g0_w104 n0_g0_w104 c0_g0_w104, .slice A1_g0_w104 n1_g0_w104 c1_g0_w104] 24) := Lib.hid (by rw [← hW127.out]; exact Bx.new _ _ _)
    have HO131 := Lib.hid (HO111.out.below HS129.out (by omega))
    clear HO111
    have HO132 := Lib.hid (HO112.out.below HS129.out (by omega))
    clear HO112
    have HO133 := Lib.hid (HO113.out.below HS129.out (by omega))
    clear HO113
    have HO134 := Lib.hid (HO109.out.below HS129.out (by omega))
    clear HO109
    have HX135 := Lib.hid (HX114.out.below HS129.out HX114.out.lt)
    clear HX114
    have HX136 := Lib.hid (HX115.out.below HS129.out HX115.out.lt)
    clear HX115
    have HX137 := Lib.hid (HX116.out.below HS129.out HX116.out.lt)
    clear HX116
    have HB138 : Hid (Below w.heap.size w w126) := Lib.hid (HB117.out.trans (HS129.out.mono (by omega)))
    clear HB117
    clear HS129
    rw [hW127.out]
    clear hW127
    refine (L_eqMarked _ _ _ _ _ _ HO134.out.rd HO131.out.rd (by omega) (by omega) HO134.out.small).mono ?_
    rintro e w118 ⟨rfl, hx119⟩
    have z139 : w126.heap.size ≤ w118.heap.size := hx119.size
    have HS140 := Lib.hid hx119
    clear hx119
    have HO141 := Lib.hid (HO131.out.below HS140.out (by omega))
    clear HO131
    have HO142 := Lib.hid (HO132.out.below HS140.out (by omega))
    clear HO132
    have HO143 := Lib.hid (HO133.out.below HS140.out (by omega))
    clear HO133
    have HO144 := Lib.hid (HO134.out.below HS140.out (by omega))
    clear HO134
    have HX145 := Lib.hid (HX135.out.below HS140.out HX135.out.lt)
    clear HX135
    have HX146 := Lib.hid (HX136.out.below HS140.out HX136.out.lt)
    clear HX136
    have HX147 := Lib.hid (HX137.out.below HS140.out HX137.out.lt)
    clear HX137
    have HX148 := Lib.hid (HX130.out.below HS140.out HX130.out.lt)
    clear HX130
    have HB149 : Hid (Below w.heap.size w w118) := Lib.hid (HB138.out.trans (HS140.out.mono (by omega)))
    clear HB138
    clear HS140
    have hq_aX_0 : w118.cell? ⟨w.heap.size, 0, none⟩ = some (.slice A0_aX n0_aX c0_aX) := HX145.out.cell 0
    have hq_aX_1 : w118.cell? ⟨w.heap.size, 1, none⟩ = some (.slice A1_aX n1_aX c1_aX) := HX145.out.cell 1
    have hq_x0_0 : w118.cell? ⟨w50.heap.size, 0, none⟩ = some (.slice A0_v49 n0_v49 c0_v49) := HX147.out.cell 0
    have hq_x0_1 : w118.cell? ⟨w50.heap.size, 1, none⟩ = some (.slice A1_v49 n1_v49 c1_v49) := HX147.out.cell 1
    have hbq := Below.refl w118.heap.size w118
    have hsq := And.intro hbq (And.intro hq_aX_0 (And.intro hq_aX_1 (And.intro hq_x0_0 hq_x0_1)))
    go_wp2
    go_region_held3 (fun w' => Below w118.heap.size w118 w' ∧ w'.cell? ⟨w.heap.size, 0, none⟩ = some (.slice A0_aX n0_aX c0_aX) ∧ w'.cell? ⟨w.heap.size, 1, none⟩ = some (.slice A1_aX n1_aX c1_aX) ∧ w'.cell? ⟨w50.heap.size, 0, none⟩ = some (.slice A0_v49 n0_v49 c0_v49) ∧ w'.cell? ⟨w50.heap.size, 1, none⟩ = some (.slice A1_v49 n1_v49 c1_v49))
      (first | exact ⟨hbq, hq_aX_0, hq_aX_1, hq_x0_0, hq_x0_1⟩ | exact ⟨hbq.drew, hq_aX_0, hq_aX_1, hq_x0_0, hq_x0_1⟩)
      (first
        | (go_at_call 33
           refine (L_toMarked w.heap.size _ d_aX _ (RdMarked.below Ha_aX.out (Below.trans HB149.out (Below.mono (by first | exact hbq | exact hbq.drew) (by exact HB149.out.size)))) (by exact Nat.le_trans (HB149.out).size hbq.size) hs_aX).mono ?_
           rintro e w3 ⟨vq, rfl, hoq, hbq3⟩
           obtain ⟨A0_vq, n0_vq, c0_vq, A1_vq, n1_vq, c1_vq, hvq⟩ : ∃ A0_vq n0_vq c0_vq A1_vq n1_vq c1_vq, vq = .agg #[.slice A0_vq n0_vq c0_vq, .slice A1_vq n1_vq c1_vq] := by obtain ⟨_, _, _, _, _, _, _, _, _, _, _, rfl, _⟩ := hoq; exact ⟨_, _, _, _, _, _, rfl⟩
           subst hvq
           have hbn : Below w118.heap.size w118 w3 := Below.trans (by first | exact hbq | exact hbq.drew) (hbq3.mono (by exact hbq.size))
           have nhq_aX_0 : w3.cell? ⟨w.heap.size, 0, none⟩ = some (.slice A0_aX n0_aX c0_aX) := (HX145.out.below hbn HX145.out.lt).cell 0
           have nhq_aX_1 : w3.cell? ⟨w.heap.size, 1, none⟩ = some (.slice A1_aX n1_aX c1_aX) := (HX145.out.below hbn HX145.out.lt).cell 1
           have nhq_x0_0 : w3.cell? ⟨w50.heap.size, 0, none⟩ = some (.slice A0_v49 n0_v49 c0_v49) := (HX147.out.below hbn HX147.out.lt).cell 0
           have nhq_x0_1 : w3.cell? ⟨w50.heap.size, 1, none⟩ = some (.slice A1_v49 n1_v49 c1_v49) := (HX147.out.below hbn HX147.out.lt).cell 1
           clear hbq hq_aX_0 hq_aX_1 hq_x0_0 hq_x0_1 hbq3
           have hbq := hbn
           have hq_aX_0 := nhq_aX_0
           have hq_aX_1 := nhq_aX_1
           have hq_x0_0 := nhq_x0_0
           have hq_x0_1 := nhq_x0_1
           clear hbn nhq_aX_0 nhq_aX_1 nhq_x0_0 nhq_x0_1)
        | (go_at_call 26
           refine (L_eqMarked _ _ _ _ d_aX _ (by exact HO142.out.rd.below (hbq.mono (by omega))) (by exact hoq.rd) (by have := hbq.size; omega) (by exact Nat.le_refl _) hs_aX).mono ?_
           rintro e w4 ⟨rfl, hbq4⟩
           have hbn : Below w118.heap.size w118 w4 := Below.trans (by first | exact hbq | exact hbq.drew) (hbq4.mono (by exact hbq.size))
           have nhq_aX_0 : w4.cell? ⟨w.heap.size, 0, none⟩ = some (.slice A0_aX n0_aX c0_aX) := (HX145.out.below hbn HX145.out.lt).cell 0
           have nhq_aX_1 : w4.cell? ⟨w.heap.size, 1, none⟩ = some (.slice A1_aX n1_aX c1_aX) := (HX145.out.below hbn HX145.out.lt).cell 1
           have nhq_x0_0 : w4.cell? ⟨w50.heap.size, 0, none⟩ = some (.slice A0_v49 n0_v49 c0_v49) := (HX147.out.below hbn HX147.out.lt).cell 0
           have nhq_x0_1 : w4.cell? ⟨w50.heap.size, 1, none⟩ = some (.slice A1_v49 n1_v49 c1_v49) := (HX147.out.below hbn HX147.out.lt).cell 1
           clear hbq hq_aX_0 hq_aX_1 hq_x0_0 hq_x0_1 hbq4
           have hbq := hbn
           have hq_aX_0 := nhq_aX_0
           have hq_aX_1 := nhq_aX_1
           have hq_x0_0 := nhq_x0_0
           have hq_x0_1 := nhq_x0_1
           clear hbn nhq_aX_0 nhq_aX_1 nhq_x0_0 nhq_x0_1))
    obtain ⟨w150, hwq⟩ : ∃ W, Hid (_ = W) := ⟨_, Lib.hid (Eq.refl w4)⟩
    have HS151 : Hid (Below w118.heap.size w118 w150) := Lib.hid (by rw [← hwq.out]; exact hbq)
    have z152 : w118.heap.size ≤ w150.heap.size := HS151.out.size
    try rw [hwq.out]
    clear hbq hsq hwq hoq hq_aX_0 hq_aX_1 hq_x0_0 hq_x0_1
    have HO153 := Lib.hid (HO141.out.below HS151.out (by omega))
    clear HO141
    have HO154 := Lib.hid (HO142.out.below HS151.out (by omega))
    clear HO142
    have HO155 := Lib.hid (HO143.out.below HS151.out (by omega))
    clear HO143
    have HO156 := Lib.hid (HO144.out.below HS151.out (by omega))
    clear HO144
    have HX157 := Lib.hid (HX145.out.below HS151.out HX145.out.lt)
    clear HX145
    have HX158 := Lib.hid (HX146.out.below HS151.out HX146.out.lt)
    clear HX146
    have HX159 := Lib.hid (HX147.out.below HS151.out HX147.out.lt)
    clear HX147
    have HX160 := Lib.hid (HX148.out.below HS151.out HX148.out.lt)
    clear HX148
    have HB161 : Hid (Below w.heap.size w w150) := Lib.hid (HB149.out.trans (HS151.out.mono (by omega)))
    clear HB149
    clear HS151
    have fc167 : w150.cell? ⟨w.heap.size, 0, none⟩ = some (.slice A0_aX n0_aX c0_aX) := HX157.out.cell 0
    have fc168 : w150.cell? ⟨w.heap.size, 1, none⟩ = some (.slice A1_aX n1_aX c1_aX) := HX157.out.cell 1
    have fc169 : w150.cell? ⟨w38.heap.size, 0, none⟩ = some (.slice A0_w0_w38 n0_w0_w38 c0_w0_w38) := HX158.out.cell 0
    have fc170 : w150.cell? ⟨w38.heap.size, 1, none⟩ = some (.slice A1_w0_w38 n1_w0_w38 c1_w0_w38) := HX158.out.cell 1
    have fc171 : w150.cell? ⟨w50.heap.size, 0, none⟩ = some (.slice A0_v49 n0_v49 c0_v49) := HX159.out.cell 0
    have fc172 : w150.cell? ⟨w50.heap.size, 1, none⟩ = some (.slice A1_v49 n1_v49 c1_v49) := HX159.out.cell 1
    have fc173 : w150.cell? ⟨w104.heap.size, 0, none⟩ = some (.slice A0_g0_w104 n0_g0_w104 c0_g0_w104) := HX160.out.cell 0
    have fc174 : w150.cell? ⟨w104.heap.size, 1, none⟩ = some (.slice A1_g0_w104 n1_g0_w104 c1_g0_w104) := HX160.out.cell 1
    go_wp2_with fail
    refine (L_toIntS _ _ _ _ (RdIntS.below Ha_aKey.out HB161.out) HB161.out.size hs_aKey).mono ?_
    rintro e w163 ⟨v162, rfl, hx175, hy176⟩
    have z166 : w150.heap.size ≤ w163.heap.size := hy176.size
    have HO164 := Lib.hid hx175
    have HS165 := Lib.hid hy176
    clear hx175 hy176
    clear fc167 fc168 fc169 fc170 fc171 fc172 fc173 fc174
    have HO177 := Lib.hid (HO153.out.below HS165.out (by omega))
    clear HO153
    have HO178 := Lib.hid (HO154.out.below HS165.out (by omega))
    clear HO154
    have HO179 := Lib.hid (HO155.out.below HS165.out (by omega))
    clear HO155
    have HO180 := Lib.hid (HO156.out.below HS165.out (by omega))
    clear HO156
    have HX181 := Lib.hid (HX157.out.below HS165.out HX157.out.lt)
    clear HX157
    have HX182 := Lib.hid (HX158.out.below HS165.out HX158.out.lt)
    clear HX158
    have HX183 := Lib.hid (HX159.out.below HS165.out HX159.out.lt)
    clear HX159
    have HX184 := Lib.hid (HX160.out.below HS165.out HX160.out.lt)
    clear HX160
    have HB185 : Hid (Below w.heap.size w w163) := Lib.hid (HB161.out.trans (HS165.out.mono (by omega)))
    clear HB161
    clear HS165
    have fc188 : w163.cell? ⟨w.heap.size, 0, none⟩ = some (.slice A0_aX n0_aX c0_aX) := HX181.out.cell 0
    have fc189 : w163.cell? ⟨w.heap.size, 1, none⟩ = some (.slice A1_aX n1_aX c1_aX) := HX181.out.cell 1
    have fc190 : w163.cell? ⟨w38.heap.size, 0, none⟩ = some (.slice A0_w0_w38 n0_w0_w38 c0_w0_w38) := HX182.out.cell 0
    have fc191 : w163.cell? ⟨w38.heap.size, 1, none⟩ = some (.slice A1_w0_w38 n1_w0_w38 c1_w0_w38) := HX182.out.cell 1
    have fc192 : w163.cell? ⟨w50.heap.size, 0, none⟩ = some (.slice A0_v49 n0_v49 c0_v49) := HX183.out.cell 0
    have fc193 : w163.cell? ⟨w50.heap.size, 1, none⟩ = some (.slice A1_v49 n1_v49 c1_v49) := HX183.out.cell 1
    have fc194 : w163.cell? ⟨w104.heap.size, 0, none⟩ = some (.slice A0_g0_w104 n0_g0_w104 c0_g0_w104) := HX184.out.cell 0
    have fc195 : w163.cell? ⟨w104.heap.size, 1, none⟩ = some (.slice A1_g0_w104 n1_g0_w104 c1_g0_w104) := HX184.out.cell 1
    go_wp2_with fail
    refine (L_eqIntS _ _ _ _ _ _ HO179.out.rd HO164.out.rd (by omega) (by omega) HO179.out.small).mono ?_
    rintro e w186 ⟨rfl, hx187⟩
    have z196 : w163.heap.size ≤ w186.heap.size := hx187.size
    have HS197 := Lib.hid hx187
    clear hx187
    clear fc188 fc189 fc190 fc191 fc192 fc193 fc194 fc195
    have HO198 := Lib.hid (HO177.out.below HS197.out (by omega))
    clear HO177
    have HO199 := Lib.hid (HO178.out.below HS197.out (by omega))
    clear HO178
    have HO200 := Lib.hid (HO179.out.below HS197.out (by omega))
    clear HO179
    have HO201 := Lib.hid (HO180.out.below HS197.out (by omega))
    clear HO180
    have HO202 := Lib.hid (HO164.out.below HS197.out (by omega))
    clear HO164
    have HX203 := Lib.hid (HX181.out.below HS197.out HX181.out.lt)
    clear HX181
    have HX204 := Lib.hid (HX182.out.below HS197.out HX182.out.lt)
    clear HX182
    have HX205 := Lib.hid (HX183.out.below HS197.out HX183.out.lt)
    clear HX183
    have HX206 := Lib.hid (HX184.out.below HS197.out HX184.out.lt)
    clear HX184
    have HB207 : Hid (Below w.heap.size w w186) := Lib.hid (HB185.out.trans (HS197.out.mono (by omega)))
    clear HB185
    clear HS197
    clear HO202
    have fc216 : w186.cell? ⟨w.heap.size, 0, none⟩ = some (.slice A0_aX n0_aX c0_aX) := HX203.out.cell 0
    have fc217 : w186.cell? ⟨w.heap.size, 1, none⟩ = some (.slice A1_aX n1_aX c1_aX) := HX203.out.cell 1
    have fc218 : w186.cell? ⟨w38.heap.size, 0, none⟩ = some (.slice A0_w0_w38 n0_w0_w38 c0_w0_w38) := HX204.out.cell 0
    have fc219 : w186.cell? ⟨w38.heap.size, 1, none⟩ = some (.slice A1_w0_w38 n1_w0_w38 c1_w0_w38) := HX204.out.cell 1
    have fc220 : w186.cell? ⟨w50.heap.size, 0, none⟩ = some (.slice A0_v49 n0_v49 c0_v49) := HX205.out.cell 0
    have fc221 : w186.cell? ⟨w50.heap.size, 1, none⟩ = some (.slice A1_v49 n1_v49 c1_v49) := HX205.out.cell 1
    have fc222 : w186.cell? ⟨w104.heap.size, 0, none⟩ = some (.slice A0_g0_w104 n0_g0_w104 c0_g0_w104) := HX206.out.cell 0
    have fc223 : w186.cell? ⟨w104.heap.size, 1, none⟩ = some (.slice A1_g0_w104 n1_g0_w104 c1_g0_w104) := HX206.out.cell 1
    go_wp2_with fail
    refine (L_markMarked _ _ _ _ _ _ HO199.out (by omega) (by omega) (by omega)).mono ?_
    rintro e w208 ⟨K209, rfl, hk210, h0_211, h1_212, hx213, hy214⟩
    have z215 : w186.heap.size ≤ w208.heap.size := hy214.size
    have HO224 := Lib.hid hx213
    have HS225 := Lib.hid hy214
    clear hx213 hy214
    clear fc216 fc217 fc218 fc219 fc220 fc221 fc222 fc223
    have HO226 := Lib.hid (HO198.out.kept HS225.out (by omega) (by omega))
    clear HO198
    have HO227 := Lib.hid (HO200.out.kept HS225.out (by omega) (by omega))
    clear HO200
    have HO228 := Lib.hid (HO201.out.kept HS225.out (by omega) (by omega))
    clear HO201
    have HX229 := Lib.hid (HX203.out.kept HS225.out (by omega))
    clear HX203
    have HX230 := Lib.hid (HX204.out.kept HS225.out (by omega))
    clear HX204
    have HX231 := Lib.hid (HX205.out.kept HS225.out (by omega))
    clear HX205
    have HX232 := Lib.hid (HX206.out.kept HS225.out (by omega))
    clear HX206
    have HB233 : Hid (Below w.heap.size w w208) := Lib.hid (HB207.out.trans ((HS225.out.to_below (by omega)).mono (by omega)))
    clear HB207
    clear HS225 HO199
    have fc242 : w208.cell? ⟨w.heap.size, 0, none⟩ = some (.slice A0_aX n0_aX c0_aX) := HX229.out.cell 0
    have fc243 : w208.cell? ⟨w.heap.size, 1, none⟩ = some (.slice A1_aX n1_aX c1_aX) := HX229.out.cell 1
    have fc244 : w208.cell? ⟨w38.heap.size, 0, none⟩ = some (.slice A0_w0_w38 n0_w0_w38 c0_w0_w38) := HX230.out.cell 0
    have fc245 : w208.cell? ⟨w38.heap.size, 1, none⟩ = some (.slice A1_w0_w38 n1_w0_w38 c1_w0_w38) := HX230.out.cell 1
    have fc246 : w208.cell? ⟨w50.heap.size, 0, none⟩ = some (.slice A0_v49 n0_v49 c0_v49) := HX231.out.cell 0
    have fc247 : w208.cell? ⟨w50.heap.size, 1, none⟩ = some (.slice A1_v49 n1_v49 c1_v49) := HX231.out.cell 1
    have fc248 : w208.cell? ⟨w104.heap.size, 0, none⟩ = some (.slice A0_g0_w104 n0_g0_w104 c0_g0_w104) := HX232.out.cell 0
    have fc249 : w208.cell? ⟨w104.heap.size, 1, none⟩ = some (.slice A1_g0_w104 n1_g0_w104 c1_g0_w104) := HX232.out.cell 1
    go_wp2_with fail
    refine (L_markIntS _ _ _ _ _ _ HO227.out (by omega) (by omega) (by omega)).mono ?_
    rintro e w234 ⟨K235, rfl, hk236, h0_237, h1_238, hx239, hy240⟩
    have z241 : w208.heap.size ≤ w234.heap.size := hy240.size
    have HO250 := Lib.hid hx239
    have HS251 := Lib.hid hy240
    clear hx239 hy240
    clear fc242 fc243 fc244 fc245 fc246 fc247 fc248 fc249
    have HO252 := Lib.hid (HO226.out.kept HS251.out (by omega) (by omega))
    clear HO226
    have HO253 := Lib.hid (HO224.out.kept HS251.out (by omega) (by omega))
    clear HO224
    have HO254 := Lib.hid (HO228.out.kept HS251.out (by omega) (by omega))
    clear HO228
    have HX255 := Lib.hid (HX229.out.kept HS251.out (by omega))
    clear HX229
    have HX256 := Lib.hid (HX230.out.kept HS251.out (by omega))
    clear HX230
    have HX257 := Lib.hid (HX231.out.kept HS251.out (by omega))
    clear HX231
    have HX258 := Lib.hid (HX232.out.kept HS251.out (by omega))
    clear HX232
    have HB259 : Hid (Below w.heap.size w w234) := Lib.hid (HB233.out.trans ((HS251.out.to_below (by omega)).mono (by omega)))
    clear HB233
    clear HS251 HO227
    clear HO253
    clear HO250
    have fc262 : w234.cell? ⟨w.heap.size, 0, none⟩ = some (.slice A0_aX n0_aX c0_aX) := HX255.out.cell 0
    have fc263 : w234.cell? ⟨w.heap.size, 1, none⟩ = some (.slice A1_aX n1_aX c1_aX) := HX255.out.cell 1
    have fc264 : w234.cell? ⟨w38.heap.size, 0, none⟩ = some (.slice A0_w0_w38 n0_w0_w38 c0_w0_w38) := HX256.out.cell 0
    have fc265 : w234.cell? ⟨w38.heap.size, 1, none⟩ = some (.slice A1_w0_w38 n1_w0_w38 c1_w0_w38) := HX256.out.cell 1
    have fc266 : w234.cell? ⟨w50.heap.size, 0, none⟩ = some (.slice A0_v49 n0_v49 c0_v49) := HX257.out.cell 0
    have fc267 : w234.cell? ⟨w50.heap.size, 1, none⟩ = some (.slice A1_v49 n1_v49 c1_v49) := HX257.out.cell 1
    have fc268 : w234.cell? ⟨w104.heap.size, 0, none⟩ = some (.slice A0_g0_w104 n0_g0_w104 c0_g0_w104) := HX258.out.cell 0
    have fc269 : w234.cell? ⟨w104.heap.size, 1, none⟩ = some (.slice A1_g0_w104 n1_g0_w104 c1_g0_w104) := HX258.out.cell 1
    go_wp2_with fail
    refine (L_eqMarked _ _ _ _ _ _ HO254.out.rd HO252.out.rd (by omega) (by omega) HO254.out.small).mono ?_
    rintro e w260 ⟨rfl, hx261⟩
    have z270 : w234.heap.size ≤ w260.heap.size := hx261.size
    have HS271 := Lib.hid hx261
    clear hx261
    clear fc262 fc263 fc264 fc265 fc266 fc267 fc268 fc269
    have HO272 := Lib.hid (HO252.out.below HS271.out (by omega))
    clear HO252
    have HO273 := Lib.hid (HO254.out.below HS271.out (by omega))
    clear HO254
    have HX274 := Lib.hid (HX255.out.below HS271.out HX255.out.lt)
    clear HX255
    have HX275 := Lib.hid (HX256.out.below HS271.out HX256.out.lt)
    clear HX256
    have HX276 := Lib.hid (HX257.out.below HS271.out HX257.out.lt)
    clear HX257
    have HX277 := Lib.hid (HX258.out.below HS271.out HX258.out.lt)
    clear HX258
    have HB278 : Hid (Below w.heap.size w w260) := Lib.hid (HB259.out.trans (HS271.out.mono (by omega)))
    clear HB259
    clear HS271
    have hs279 := HO273.out.small
    have fc288 : w260.cell? ⟨w.heap.size, 0, none⟩ = some (.slice A0_aX n0_aX c0_aX) := HX274.out.cell 0
    have fc289 : w260.cell? ⟨w.heap.size, 1, none⟩ = some (.slice A1_aX n1_aX c1_aX) := HX274.out.cell 1
    have fc290 : w260.cell? ⟨w38.heap.size, 0, none⟩ = some (.slice A0_w0_w38 n0_w0_w38 c0_w0_w38) := HX275.out.cell 0
    have fc291 : w260.cell? ⟨w38.heap.size, 1, none⟩ = some (.slice A1_w0_w38 n1_w0_w38 c1_w0_w38) := HX275.out.cell 1
    have fc292 : w260.cell? ⟨w50.heap.size, 0, none⟩ = some (.slice A0_v49 n0_v49 c0_v49) := HX276.out.cell 0
    have fc293 : w260.cell? ⟨w50.heap.size, 1, none⟩ = some (.slice A1_v49 n1_v49 c1_v49) := HX276.out.cell 1
    have fc294 : w260.cell? ⟨w104.heap.size, 0, none⟩ = some (.slice A0_g0_w104 n0_g0_w104 c0_g0_w104) := HX277.out.cell 0
    have fc295 : w260.cell? ⟨w104.heap.size, 1, none⟩ = some (.slice A1_g0_w104 n1_g0_w104 c1_g0_w104) := HX277.out.cell 1
    go_wp2_with fail
    refine (L_markMarked _ _ _ _ _ _ HO273.out (by omega) (by omega) (by omega)).mono ?_
    rintro e w280 ⟨K281, rfl, hk282, h0_283, h1_284, hx285, hy286⟩
    have z287 : w260.heap.size ≤ w280.heap.size := hy286.size
    have HO296 := Lib.hid hx285
    have HS297 := Lib.hid hy286
    clear hx285 hy286
    clear fc288 fc289 fc290 fc291 fc292 fc293 fc294 fc295
    have HO298 := Lib.hid (HO272.out.kept HS297.out (by omega) (by omega))
    clear HO272
    have HX299 := Lib.hid (HX274.out.kept HS297.out (by omega))
    clear HX274
    have HX300 := Lib.hid (HX275.out.kept HS297.out (by omega))
    clear HX275
    have HX301 := Lib.hid (HX276.out.kept HS297.out (by omega))
    clear HX276
    have HX302 := Lib.hid (HX277.out.kept HS297.out (by omega))
    clear HX277
    have HB303 : Hid (Below w.heap.size w w280) := Lib.hid (HB278.out.trans ((HS297.out.to_below (by omega)).mono (by omega)))
    clear HB278
    clear HS297 HO273
    have fc310 : w280.cell? ⟨w.heap.size, 0, none⟩ = some (.slice A0_aX n0_aX c0_aX) := HX299.out.cell 0
    have fc311 : w280.cell? ⟨w.heap.size, 1, none⟩ = some (.slice A1_aX n1_aX c1_aX) := HX299.out.cell 1
    have fc312 : w280.cell? ⟨w38.heap.size, 0, none⟩ = some (.slice A0_w0_w38 n0_w0_w38 c0_w0_w38) := HX300.out.cell 0
    have fc313 : w280.cell? ⟨w38.heap.size, 1, none⟩ = some (.slice A1_w0_w38 n1_w0_w38 c1_w0_w38) := HX300.out.cell 1
    have fc314 : w280.cell? ⟨w50.heap.size, 0, none⟩ = some (.slice A0_v49 n0_v49 c0_v49) := HX301.out.cell 0
    have fc315 : w280.cell? ⟨w50.heap.size, 1, none⟩ = some (.slice A1_v49 n1_v49 c1_v49) := HX301.out.cell 1
    have fc316 : w280.cell? ⟨w104.heap.size, 0, none⟩ = some (.slice A0_g0_w104 n0_g0_w104 c0_g0_w104) := HX302.out.cell 0
    have fc317 : w280.cell? ⟨w104.heap.size, 1, none⟩ = some (.slice A1_g0_w104 n1_g0_w104 c1_g0_w104) := HX302.out.cell 1
    go_wp2_with fail
    refine (L_heldMarked _ _ (R_MarkedShift_0 d_aX aBy d_aKey) 1 _ _ HO296.out.rd (by omega) hs279 (Lib.hid rfl) (by omega) (by omega)).mono ?_
    rintro e w304 ⟨K305, rfl, hk306, h0_307, h1_308, hx309⟩
    have z318 : w280.heap.size ≤ w304.heap.size := hx309.size
    have HS319 := Lib.hid hx309
    clear hx309
    have HE320 : Hid (K305 = K281) := Lib.hid (by rw [hk306.out, hk282.out])
    have hne321 : (K305 != K281) = false := by rw [HE320.out]; simp
    clear fc310 fc311 fc312 fc313 fc314 fc315 fc316 fc317
    have HO322 := Lib.hid (HO298.out.below HS319.out (by omega))
    clear HO298
    have HO323 := Lib.hid (HO296.out.below HS319.out (by omega))
    clear HO296
    have HX324 := Lib.hid (HX299.out.below HS319.out HX299.out.lt)
    clear HX299
    have HX325 := Lib.hid (HX300.out.below HS319.out HX300.out.lt)
    clear HX300
    have HX326 := Lib.hid (HX301.out.below HS319.out HX301.out.lt)
    clear HX301
    have HX327 := Lib.hid (HX302.out.below HS319.out HX302.out.lt)
    clear HX302
    have HB328 : Hid (Below w.heap.size w w304) := Lib.hid (HB303.out.trans (HS319.out.mono (by omega)))
    clear HB303
    clear HS319
    have fc334 : w304.cell? ⟨w.heap.size, 0, none⟩ = some (.slice A0_aX n0_aX c0_aX) := HX324.out.cell 0
    have fc335 : w304.cell? ⟨w.heap.size, 1, none⟩ = some (.slice A1_aX n1_aX c1_aX) := HX324.out.cell 1
    have fc336 : w304.cell? ⟨w38.heap.size, 0, none⟩ = some (.slice A0_w0_w38 n0_w0_w38 c0_w0_w38) := HX325.out.cell 0
    have fc337 : w304.cell? ⟨w38.heap.size, 1, none⟩ = some (.slice A1_w0_w38 n1_w0_w38 c1_w0_w38) := HX325.out.cell 1
    have fc338 : w304.cell? ⟨w50.heap.size, 0, none⟩ = some (.slice A0_v49 n0_v49 c0_v49) := HX326.out.cell 0
    have fc339 : w304.cell? ⟨w50.heap.size, 1, none⟩ = some (.slice A1_v49 n1_v49 c1_v49) := HX326.out.cell 1
    have fc340 : w304.cell? ⟨w104.heap.size, 0, none⟩ = some (.slice A0_g0_w104 n0_g0_w104 c0_g0_w104) := HX327.out.cell 0
    have fc341 : w304.cell? ⟨w104.heap.size, 1, none⟩ = some (.slice A1_g0_w104 n1_g0_w104 c1_g0_w104) := HX327.out.cell 1
    go_wp2_with fail
    refine (L_toMarked _ _ _ _ (RdMarked.below Ha_aX.out HB328.out) HB328.out.size hs_aX).mono ?_
    rintro e w330 ⟨v329, rfl, hx342, hy343⟩
    have z333 : w304.heap.size ≤ w330.heap.size := hy343.size
    obtain ⟨A0_v329, n0_v329, c0_v329, A1_v329, n1_v329, c1_v329, hv344⟩ : ∃ A0_v329 n0_v329 c0_v329 A1_v329 n1_v329 c1_v329, v329 = .agg #[.slice A0_v329 n0_v329 c0_v329, .slice A1_v329 n1_v329 c1_v329] := by obtain ⟨_, _, _, _, _, _, _, _, _, _, _, rfl, _⟩ := hx342; exact ⟨_, _, _, _, _, _, rfl⟩
    subst hv344
    have HO331 := Lib.hid hx342
    have HS332 := Lib.hid hy343
    clear hx342 hy343
    clear fc334 fc335 fc336 fc337 fc338 fc339 fc340 fc341
    have HO345 := Lib.hid (HO322.out.below HS332.out (by omega))
    clear HO322
    have HO346 := Lib.hid (HO323.out.below HS332.out (by omega))
    clear HO323
    have HX347 := Lib.hid (HX324.out.below HS332.out HX324.out.lt)
    clear HX324
    have HX348 := Lib.hid (HX325.out.below HS332.out HX325.out.lt)
    clear HX325
    have HX349 := Lib.hid (HX326.out.below HS332.out HX326.out.lt)
    clear HX326
    have HX350 := Lib.hid (HX327.out.below HS332.out HX327.out.lt)
    clear HX327
    have HB351 : Hid (Below w.heap.size w w330) := Lib.hid (HB328.out.trans (HS332.out.mono (by omega)))
    clear HB328
    clear HS332
    have fc357 : w330.cell? ⟨w.heap.size, 0, none⟩ = some (.slice A0_aX n0_aX c0_aX) := HX347.out.cell 0
    have fc358 : w330.cell? ⟨w.heap.size, 1, none⟩ = some (.slice A1_aX n1_aX c1_aX) := HX347.out.cell 1
    have fc359 : w330.cell? ⟨w38.heap.size, 0, none⟩ = some (.slice A0_w0_w38 n0_w0_w38 c0_w0_w38) := HX348.out.cell 0
    have fc360 : w330.cell? ⟨w38.heap.size, 1, none⟩ = some (.slice A1_w0_w38 n1_w0_w38 c1_w0_w38) := HX348.out.cell 1
    have fc361 : w330.cell? ⟨w50.heap.size, 0, none⟩ = some (.slice A0_v49 n0_v49 c0_v49) := HX349.out.cell 0
    have fc362 : w330.cell? ⟨w50.heap.size, 1, none⟩ = some (.slice A1_v49 n1_v49 c1_v49) := HX349.out.cell 1
    have fc363 : w330.cell? ⟨w104.heap.size, 0, none⟩ = some (.slice A0_g0_w104 n0_g0_w104 c0_g0_w104) := HX350.out.cell 0
    have fc364 : w330.cell? ⟨w104.heap.size, 1, none⟩ = some (.slice A1_g0_w104 n1_g0_w104 c1_g0_w104) := HX350.out.cell 1
    go_wp2_with fail
    refine (L_toIntS _ _ _ _ (RdIntS.below Ha_aKey.out HB351.out) HB351.out.size hs_aKey).mono ?_
    rintro e w353 ⟨v352, rfl, hx365, hy366⟩
    have z356 : w330.heap.size ≤ w353.heap.size := hy366.size
    have HO354 := Lib.hid hx365
    have HS355 := Lib.hid hy366
    clear hx365 hy366
    clear fc357 fc358 fc359 fc360 fc361 fc362 fc363 fc364
    have HO367 := Lib.hid (HO345.out.below HS355.out (by omega))
    clear HO345
    have HO368 := Lib.hid (HO346.out.below HS355.out (by omega))
    clear HO346
    have HO369 := Lib.hid (HO331.out.below HS355.out (by omega))
    clear HO331
    have HX370 := Lib.hid (HX347.out.below HS355.out HX347.out.lt)
    clear HX347
    have HX371 := Lib.hid (HX348.out.below HS355.out HX348.out.lt)
    clear HX348
    have HX372 := Lib.hid (HX349.out.below HS355.out HX349.out.lt)
    clear HX349
    have HX373 := Lib.hid (HX350.out.below HS355.out HX350.out.lt)
    clear HX350
    have HB374 : Hid (Below w.heap.size w w353) := Lib.hid (HB351.out.trans (HS355.out.mono (by omega)))
    clear HB351
    clear HS355
    have fc375 : w353.cell? ⟨w.heap.size, 0, none⟩ = some (.slice A0_aX n0_aX c0_aX) := HX370.out.cell 0
    have fc376 : w353.cell? ⟨w.heap.size, 1, none⟩ = some (.slice A1_aX n1_aX c1_aX) := HX370.out.cell 1
    have fc377 : w353.cell? ⟨w38.heap.size, 0, none⟩ = some (.slice A0_w0_w38 n0_w0_w38 c0_w0_w38) := HX371.out.cell 0
    have fc378 : w353.cell? ⟨w38.heap.size, 1, none⟩ = some (.slice A1_w0_w38 n1_w0_w38 c1_w0_w38) := HX371.out.cell 1
    have fc379 : w353.cell? ⟨w50.heap.size, 0, none⟩ = some (.slice A0_v49 n0_v49 c0_v49) := HX372.out.cell 0
    have fc380 : w353.cell? ⟨w50.heap.size, 1, none⟩ = some (.slice A1_v49 n1_v49 c1_v49) := HX372.out.cell 1
    have fc381 : w353.cell? ⟨w104.heap.size, 0, none⟩ = some (.slice A0_g0_w104 n0_g0_w104 c0_g0_w104) := HX373.out.cell 0
    have fc382 : w353.cell? ⟨w104.heap.size, 1, none⟩ = some (.slice A1_g0_w104 n1_g0_w104 c1_g0_w104) := HX373.out.cell 1
    go_wp2_with fail
    refine (X_i_MarkedShift _ _ d_aX aBy d_aKey _ (HO369.out.rd.more (by omega)) (HO354.out.rd.more (by omega)) hs_aX hs_aKey).mono ?_
    rintro e w383 ⟨h0_w383, rfl, hx384, hy385⟩
    have z386 : w353.heap.size ≤ w383.heap.size := hy385.size
    obtain ⟨A0_h0_w383, n0_h0_w383, c0_h0_w383, A1_h0_w383, n1_h0_w383, c1_h0_w383, hv387⟩ : ∃ A0_h0_w383 n0_h0_w383 c0_h0_w383 A1_h0_w383 n1_h0_w383 c1_h0_w383, h0_w383 = .agg #[.slice A0_h0_w383 n0_h0_w383 c0_h0_w383, .slice A1_h0_w383 n1_h0_w383 c1_h0_w383] := by obtain ⟨_, _, _, _, _, _, _, _, _, _, _, rfl, _⟩ := hx384; exact ⟨_, _, _, _, _, _, rfl⟩
    subst hv387
    have HO388 := Lib.hid hx384
    clear hx384
    have HS389 := Lib.hid hy385
    clear hy385
    clear fc375 fc376 fc377 fc378 fc379 fc380 fc381 fc382
    have HO390 := Lib.hid (HO367.out.below HS389.out (by omega))
    clear HO367
    have HO391 := Lib.hid (HO368.out.below HS389.out (by omega))
    clear HO368
    have HO392 := Lib.hid (HO369.out.below HS389.out (by omega))
    clear HO369
    have HO393 := Lib.hid (HO354.out.below HS389.out (by omega))
    clear HO354
    have HX394 := Lib.hid (HX370.out.below HS389.out HX370.out.lt)
    clear HX370
    have HX395 := Lib.hid (HX371.out.below HS389.out HX371.out.lt)
    clear HX371
    have HX396 := Lib.hid (HX372.out.below HS389.out HX372.out.lt)
    clear HX372
    have HX397 := Lib.hid (HX373.out.below HS389.out HX373.out.lt)
    clear HX373
    have HB398 : Hid (Below w.heap.size w w383) := Lib.hid (HB374.out.trans (HS389.out.mono (by omega)))
    clear HB374
    clear HS389
    clear HO392
    clear HO393
    have fc401 : (w383.alloc (.cells #[.slice A0_h0_w383 n0_h0_w383 c0_h0_w383, .slice A1_h0_w383 n1_h0_w383 c1_h0_w383] 24)).cell? ⟨w.heap.size, 0, none⟩ = some (.slice A0_aX n0_aX c0_aX) := (HX394.out.alloc _).cell 0
    have fc402 : (w383.alloc (.cells #[.slice A0_h0_w383 n0_h0_w383 c0_h0_w383, .slice A1_h0_w383 n1_h0_w383 c1_h0_w383] 24)).cell? ⟨w.heap.size, 1, none⟩ = some (.slice A1_aX n1_aX c1_aX) := (HX394.out.alloc _).cell 1
    have fc403 : (w383.alloc (.cells #[.slice A0_h0_w383 n0_h0_w383 c0_h0_w383, .slice A1_h0_w383 n1_h0_w383 c1_h0_w383] 24)).cell? ⟨w38.heap.size, 0, none⟩ = some (.slice A0_w0_w38 n0_w0_w38 c0_w0_w38) := (HX395.out.alloc _).cell 0
    have fc404 : (w383.alloc (.cells #[.slice A0_h0_w383 n0_h0_w383 c0_h0_w383, .slice A1_h0_w383 n1_h0_w383 c1_h0_w383] 24)).cell? ⟨w38.heap.size, 1, none⟩ = some (.slice A1_w0_w38 n1_w0_w38 c1_w0_w38) := (HX395.out.alloc _).cell 1
    have fc405 : (w383.alloc (.cells #[.slice A0_h0_w383 n0_h0_w383 c0_h0_w383, .slice A1_h0_w383 n1_h0_w383 c1_h0_w383] 24)).cell? ⟨w50.heap.size, 0, none⟩ = some (.slice A0_v49 n0_v49 c0_v49) := (HX396.out.alloc _).cell 0
    have fc406 : (w383.alloc (.cells #[.slice A0_h0_w383 n0_h0_w383 c0_h0_w383, .slice A1_h0_w383 n1_h0_w383 c1_h0_w383] 24)).cell? ⟨w50.heap.size, 1, none⟩ = some (.slice A1_v49 n1_v49 c1_v49) := (HX396.out.alloc _).cell 1
    have fc407 : (w383.alloc (.cells #[.slice A0_h0_w383 n0_h0_w383 c0_h0_w383, .slice A1_h0_w383 n1_h0_w383 c1_h0_w383] 24)).cell? ⟨w104.heap.size, 0, none⟩ = some (.slice A0_g0_w104 n0_g0_w104 c0_g0_w104) := (HX397.out.alloc _).cell 0
    have fc408 : (w383.alloc (.cells #[.slice A0_h0_w383 n0_h0_w383 c0_h0_w383, .slice A1_h0_w383 n1_h0_w383 c1_h0_w383] 24)).cell? ⟨w104.heap.size, 1, none⟩ = some (.slice A1_g0_w104 n1_g0_w104 c1_g0_w104) := (HX397.out.alloc _).cell 1
    go_wp2_with fail
    clear fc401 fc402 fc403 fc404 fc405 fc406 fc407 fc408
    obtain ⟨w409, hW410⟩ : ∃ W, Hid (w383.alloc (.cells #[.slice A0_h0_w383 n0_h0_w383 c0_h0_w383, .slice A1_h0_w383 n1_h0_w383 c1_h0_w383] 24) = W) := ⟨_, Lib.hid rfl⟩
    have z411 : w409.heap.size = w383.heap.size + 1 := by rw [← hW410.out, World.size_alloc]
    have HS412 : Hid (Below w383.heap.size w383 w409) := Lib.hid (by rw [← hW410.out]; exact (Below.refl _ _).alloc (Nat.le_refl _) _)
    have HX413 : Hid (Bx w409 w383.heap.size #[.slice A0_h0_w383 n0_h0_w383 c0_h0_w383, .slice A1_h0_w383 n1_h0_w383 c1_h0_w383] 24) := Lib.hid (by rw [← hW410.out]; exact Bx.new _ _ _)
    have HO414 := Lib.hid (HO390.out.below HS412.out (by omega))
    clear HO390
    have HO415 := Lib.hid (HO391.out.below HS412.out (by omega))
    clear HO391
    have HO416 := Lib.hid (HO388.out.below HS412.out (by omega))
    clear HO388
    have HX417 := Lib.hid (HX394.out.below HS412.out HX394.out.lt)
    clear HX394
    have HX418 := Lib.hid (HX395.out.below HS412.out HX395.out.lt)
    clear HX395
    have HX419 := Lib.hid (HX396.out.below HS412.out HX396.out.lt)
    clear HX396
    have HX420 := Lib.hid (HX397.out.below HS412.out HX397.out.lt)
    clear HX397
    have HB421 : Hid (Below w.heap.size w w409) := Lib.hid (HB398.out.trans (HS412.out.mono (by omega)))
    clear HB398
    clear HS412
    rw [hW410.out]
    clear hW410
    refine (L_eqMarked _ _ _ _ _ _ HO416.out.rd HO414.out.rd (by omega) (by omega) HO416.out.small).mono ?_
    rintro e w399 ⟨rfl, hx400⟩
    have z422 : w409.heap.size ≤ w399.heap.size := hx400.size
    have HS423 := Lib.hid hx400
    clear hx400
    have HO424 := Lib.hid (HO414.out.below HS423.out (by omega))
    clear HO414
    have HO425 := Lib.hid (HO415.out.below HS423.out (by omega))
    clear HO415
    have HO426 := Lib.hid (HO416.out.below HS423.out (by omega))
    clear HO416
    have HX427 := Lib.hid (HX417.out.below HS423.out HX417.out.lt)
    clear HX417
    have HX428 := Lib.hid (HX418.out.below HS423.out HX418.out.lt)
    clear HX418
    have HX429 := Lib.hid (HX419.out.below HS423.out HX419.out.lt)
    clear HX419
    have HX430 := Lib.hid (HX420.out.below HS423.out HX420.out.lt)
    clear HX420
    have HX431 := Lib.hid (HX413.out.below HS423.out HX413.out.lt)
    clear HX413
    have HB432 : Hid (Below w.heap.size w w399) := Lib.hid (HB421.out.trans (HS423.out.mono (by omega)))
    clear HB421
    clear HS423
    have fc439 : w399.cell? ⟨w.heap.size, 0, none⟩ = some (.slice A0_aX n0_aX c0_aX) := HX427.out.cell 0
    have fc440 : w399.cell? ⟨w.heap.size, 1, none⟩ = some (.slice A1_aX n1_aX c1_aX) := HX427.out.cell 1
    have fc441 : w399.cell? ⟨w38.heap.size, 0, none⟩ = some (.slice A0_w0_w38 n0_w0_w38 c0_w0_w38) := HX428.out.cell 0
    have fc442 : w399.cell? ⟨w38.heap.size, 1, none⟩ = some (.slice A1_w0_w38 n1_w0_w38 c1_w0_w38) := HX428.out.cell 1
    have fc443 : w399.cell? ⟨w50.heap.size, 0, none⟩ = some (.slice A0_v49 n0_v49 c0_v49) := HX429.out.cell 0
    have fc444 : w399.cell? ⟨w50.heap.size, 1, none⟩ = some (.slice A1_v49 n1_v49 c1_v49) := HX429.out.cell 1
    have fc445 : w399.cell? ⟨w104.heap.size, 0, none⟩ = some (.slice A0_g0_w104 n0_g0_w104 c0_g0_w104) := HX430.out.cell 0
    have fc446 : w399.cell? ⟨w104.heap.size, 1, none⟩ = some (.slice A1_g0_w104 n1_g0_w104 c1_g0_w104) := HX430.out.cell 1
    have fc447 : w399.cell? ⟨w383.heap.size, 0, none⟩ = some (.slice A0_h0_w383 n0_h0_w383 c0_h0_w383) := HX431.out.cell 0
    have fc448 : w399.cell? ⟨w383.heap.size, 1, none⟩ = some (.slice A1_h0_w383 n1_h0_w383 c1_h0_w383) := HX431.out.cell 1
    go_wp2_with fail
    refine (L_heldMarked _ _ (R_MarkedShift_0 d_aX aBy d_aKey) 1 _ _ HO425.out.rd (by omega) hs279 (Lib.hid rfl) (by omega) (by omega)).mono ?_
    rintro e w433 ⟨K434, rfl, hk435, h0_436, h1_437, hx438⟩
    have z449 : w399.heap.size ≤ w433.heap.size := hx438.size
    have HS450 := Lib.hid hx438
    clear hx438
    have HE451 : Hid (K434 = K281) := Lib.hid (by rw [hk435.out, hk282.out])
    have hne452 : (K434 != K281) = false := by rw [HE451.out]; simp
    clear fc439 fc440 fc441 fc442 fc443 fc444 fc445 fc446 fc447 fc448
    have HO453 := Lib.hid (HO424.out.below HS450.out (by omega))
    clear HO424
    have HO454 := Lib.hid (HO425.out.below HS450.out (by omega))
    clear HO425
    have HO455 := Lib.hid (HO426.out.below HS450.out (by omega))
    clear HO426
    have HX456 := Lib.hid (HX427.out.below HS450.out HX427.out.lt)
    clear HX427
    have HX457 := Lib.hid (HX428.out.below HS450.out HX428.out.lt)
    clear HX428
    have HX458 := Lib.hid (HX429.out.below HS450.out HX429.out.lt)
    clear HX429
    have HX459 := Lib.hid (HX430.out.below HS450.out HX430.out.lt)
    clear HX430
    have HX460 := Lib.hid (HX431.out.below HS450.out HX431.out.lt)
    clear HX431
    have HB461 : Hid (Below w.heap.size w w433) := Lib.hid (HB432.out.trans (HS450.out.mono (by omega)))
    clear HB432
    clear HS450
    go_wp2
    go_ret
    exact ⟨rfl, HB461.out⟩
  · have hn_aKey : ¬ n_aKey ≤ 1048576 := by have := h_aKey.len; unfold szIntS at hs_aKey; omega
    go_enter Try.func9, Try.ntmps9
    go_wp2
    go_ret
    exact ⟨rfl, by first | exact Below.refl _ _ | exact (Below.refl _ _).alloc (Nat.le_refl _) _ | exact ((Below.refl _ _).alloc (Nat.le_refl _) _).alloc (by simp) _⟩

set_option maxRecDepth 100000 in
theorem lifted (os : Os) (started : os.Started) (H : Type) (enc : TypeId × Value → H) :
    ReturnsInHanded {} Try.checked os 9 .any (Rows.fnExactMarkedShiftSpec.pre6 enc Try.prog Try.f9 Rows.fnExactMarkedShiftRow.domain false) (Rows.fnExactMarkedShiftSpec.post enc Try.prog Try.f9 false true false false) := by
  refine returnsInHanded_of_change (C := Try.checked) own started (by kernel_rfl) Try.func9
    (ChangeSpec.witness6 (enc := enc) (C := Try.checked) false ⟨#[], #[.agg #[.slice none 0 0, .slice none 0 0], .int .i64 0, .slice none 0 0], []⟩ 8 (by kernel_rfl) (by kernel_rfl) (by kernel_rfl) (by kernel_rfl)) ?_
  intro W base args ds gs before hval0 hW hcnd _
  have hval : ∀ (j : Nat) t v, Try.f9.params[j]? = some t → args[j]? = some v → Value.okWide Try.prog W .any base t v := hval0
  have hW' := hW
  obtain ⟨p, q, hA0, hV, rfl, hfz, hnd⟩ := hW
  have hA : DataW.TrodAll enc Try.prog W 0 (fun _ => true) true Try.f9.params.toList args.toList ds p := hA0
  rw [Try.params9] at hA hval
  obtain ⟨v0, vs0, dd0, ds0, p0, q0, hargs, rfl, rfl, h0, r0⟩ := trodAll_cons hA
  obtain ⟨v1, vs1, dd1, ds1, p1, q1, rfl, rfl, rfl, h1, r1⟩ := trodAll_cons r0
  obtain ⟨v2, vs2, dd2, ds2, p2, q2, rfl, rfl, rfl, h2, r2⟩ := trodAll_cons r1
  obtain ⟨rfl, rfl, rfl⟩ := trodAll_nil r2
  obtain rfl : args = #[v0, v1, v2] := by cases args; simp_all
  obtain ⟨rfl, rfl⟩ := trodVars_none hV
  obtain ⟨u0_aX, u1_aX, y0_aX, y1_aX, fz_aX, rfl, rfl, rfl, g0_aX, g1_aX⟩ := Go.Joins.open_agg2 Try.underlying33 (by kernel_rfl) (by kernel_rfl) (hval 0 33 v0 rfl rfl) h0
  obtain ⟨A0_aX, n0_aX, c0_aX, d0_aX, rfl, h0_aX⟩ := field_IntS Try.underlying22 Try.underlying3 (by kernel_rfl) g0_aX
  obtain ⟨A1_aX, n1_aX, c1_aX, d1_aX, rfl, h1_aX⟩ := field_IntS Try.underlying22 Try.underlying3 (by kernel_rfl) g1_aX
  obtain ⟨aBy, rfl, rfl, rfl, w_aBy⟩ := open_int Try.underlying3 (hval 1 3 v1 rfl rfl) h1
  obtain ⟨A_aKey, n_aKey, c_aKey, d_aKey, rfl, hm_aKey, h_aKey⟩ := open_intS Try.underlying22 Try.underlying3 (by kernel_rfl) (hval 2 22 v2 rfl rfl) h2
  refine (walk A0_aX n0_aX c0_aX A1_aX n1_aX c1_aX d0_aX d1_aX aBy A_aKey n_aKey c_aKey d_aKey W h0_aX h1_aX w_aBy hm_aKey h_aKey).mono fun e W' ⟨he, hb⟩ => ?_
  subst he
  exact ⟨_, rfl, post_law rfl rfl Try.underlying4 (by kernel_rfl) (by kernel_rfl) hW' rfl hb⟩

theorem closed : joinedFacts Try.prog 9 Try.f9 Rows.fnExactMarkedShiftSpec Rows.fnExactMarkedShiftRow = true := joined_of (by kernel_rfl)
theorem over : Rows.fnExactMarkedShiftRow.holds Try.pinned (OpenSpec.ofChange Rows.fnExactMarkedShiftSpec) :=
  OpenClaim.holds_of_wide 9 Try.f9 rfl rfl rfl rfl rfl rfl rfl ⟨rfl, rfl, rfl, rfl, rfl⟩ rfl rfl rfl rfl rfl (by kernel_rfl) Try.func9 closed
    (of_decide_eq_true (by kernel_rfl)) (by unfold Func.isWrapper; first | (rw [if_pos (by decide +kernel)]; kernel_rfl) | (rw [if_neg (by decide +kernel)]; exact ⟨rfl, rfl⟩))
    (fun os started H enc _ => lifted os started H enc)
/-- the statement -/
theorem proved : Rows.FnExactMarkedShiftSaid :=
  over
end Go.Proofs.Ythfkjaofgpgoeaa.fnExactMarkedShift
