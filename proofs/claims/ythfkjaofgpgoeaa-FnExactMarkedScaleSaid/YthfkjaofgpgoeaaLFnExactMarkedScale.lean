/- FnExactMarkedScale answers true at every input: at each argument the function and its model answer alike, no argument is written, and the answer owns its memory. No condition. -/
import Derived.Test.YthfkjaofgpgoeaaRows
import Derived.Test.YthfkjaofgpgoeaaLaw
import Derived.Test.YthfkjaofgpgoeaaDoor
import Derived.Test.YthfkjaofgpgoeaaMFnExactMarkedMake
namespace Go.Proofs.Ythfkjaofgpgoeaa.fnExactMarkedScale
open Go.ChangeShapes Go.WideShapes Go.ChangeAt Go.RowKit
theorem own : ownKnob Try.prog.godebug = none := by kernel_rfl
set_option maxRecDepth 100000 in
set_option maxHeartbeats 4000000 in
theorem walk (A0_aX : Option Addr) (n0_aX c0_aX : Nat) (A1_aX : Option Addr) (n1_aX c1_aX : Nat) (d0_aX : List Int) (d1_aX : List Int) (aBy : Int) (w : World) (h0_aX : RdIntS w w.heap.size (.slice A0_aX n0_aX c0_aX) d0_aX) (h1_aX : RdIntS w w.heap.size (.slice A1_aX n1_aX c1_aX) d1_aX) (_w_aBy : (Lit.int .i64 aBy).wf = true) :
    Calls Try.prog 8 #[.agg #[.slice A0_aX n0_aX c0_aX, .slice A1_aX n1_aX c1_aX], .int .i64 aBy] w fun e w' => e = .returned (.bool true) ∧ Below w.heap.size w w' := by
  obtain ⟨d_aX, hd_aX⟩ : ∃ d, d = (d0_aX, d1_aX) := ⟨_, rfl⟩
  have Ha_aX : Hid (RdMarked w w.heap.size (.agg #[.slice A0_aX n0_aX c0_aX, .slice A1_aX n1_aX c1_aX]) d_aX) := Lib.hid (by rw [hd_aX]; exact ⟨_, _, _, _, _, _, rfl, h0_aX, h1_aX⟩)
  clear h0_aX h1_aX hd_aX
  go_enter Try.func8, Try.ntmps8
  obtain ⟨W0, hW0⟩ : ∃ W, Hid ((w.alloc (.cells #[.slice A0_aX n0_aX c0_aX, .slice A1_aX n1_aX c1_aX] 33)) = W) := ⟨_, Lib.hid rfl⟩
  have HB_0 : Hid (Below w.heap.size w W0) := Lib.hid (by rw [← hW0.out]; exact (Below.refl _ _).alloc (Nat.le_refl _) _)
  have z_0 : W0.heap.size = w.heap.size + 1 := by rw [← hW0.out]; simp only [World.size_alloc]
  have HX_aX : Hid (Bx W0 (w.heap.size) #[.slice A0_aX n0_aX c0_aX, .slice A1_aX n1_aX c1_aX] 33) := Lib.hid (by rw [← hW0.out]; have := Bx.new w #[.slice A0_aX n0_aX c0_aX, .slice A1_aX n1_aX c1_aX] 33; exact this)
  go_wp2_with fail
  rw [hW0.out]
  clear hW0
  rcases Int.lt_or_le 1048576 (szMarked d_aX : Nat) with hl1 | hl1
  · refine (L_szMarked_no _ _ _ _ _ (RdMarked.below Ha_aX.out HB_0.out) (by omega) (by omega) (by omega) hl1).mono ?_
    rintro e w' ⟨rfl, hb⟩
    have hb2 := Lib.hid (HB_0.out.trans (hb.mono (by omega)))
    clear hb
    go_wp2
    go_ret
    exact ⟨rfl, hb2.out⟩
  refine (L_szMarked_ok _ _ _ _ _ (RdMarked.below Ha_aX.out HB_0.out) (by omega) (by omega) (by omega) hl1).mono ?_
  rintro e w2 ⟨L3, rfl, hx6, h0_4, h1_5, hy7⟩
  have hs_aX : szMarked d_aX ≤ 1048576 := by omega
  have z8 : W0.heap.size ≤ w2.heap.size := hy7.size
  have HS9 := Lib.hid hy7
  clear hy7
  have HX10 := Lib.hid (HX_aX.out.below HS9.out HX_aX.out.lt)
  clear HX_aX
  have HB11 : Hid (Below w.heap.size w w2) := Lib.hid (HB_0.out.trans (HS9.out.mono (by omega)))
  clear HB_0
  clear HS9
  have fc17 : w2.cell? ⟨w.heap.size, 0, none⟩ = some (.slice A0_aX n0_aX c0_aX) := HX10.out.cell 0
  have fc18 : w2.cell? ⟨w.heap.size, 1, none⟩ = some (.slice A1_aX n1_aX c1_aX) := HX10.out.cell 1
  go_wp2_with fail
  refine (L_toMarked _ _ _ _ (RdMarked.below Ha_aX.out HB11.out) HB11.out.size hs_aX).mono ?_
  rintro e w13 ⟨v12, rfl, hx19, hy20⟩
  have z16 : w2.heap.size ≤ w13.heap.size := hy20.size
  obtain ⟨A0_v12, n0_v12, c0_v12, A1_v12, n1_v12, c1_v12, hv21⟩ : ∃ A0_v12 n0_v12 c0_v12 A1_v12 n1_v12 c1_v12, v12 = .agg #[.slice A0_v12 n0_v12 c0_v12, .slice A1_v12 n1_v12 c1_v12] := by obtain ⟨_, _, _, _, _, _, _, _, _, _, _, rfl, _⟩ := hx19; exact ⟨_, _, _, _, _, _, rfl⟩
  subst hv21
  have HO14 := Lib.hid hx19
  have HS15 := Lib.hid hy20
  clear hx19 hy20
  clear fc17 fc18
  have HX22 := Lib.hid (HX10.out.below HS15.out HX10.out.lt)
  clear HX10
  have HB23 : Hid (Below w.heap.size w w13) := Lib.hid (HB11.out.trans (HS15.out.mono (by omega)))
  clear HB11
  clear HS15
  have fc24 : w13.cell? ⟨w.heap.size, 0, none⟩ = some (.slice A0_aX n0_aX c0_aX) := HX22.out.cell 0
  have fc25 : w13.cell? ⟨w.heap.size, 1, none⟩ = some (.slice A1_aX n1_aX c1_aX) := HX22.out.cell 1
  go_wp2_with fail
  refine (X_s_MarkedScale _ d_aX aBy _ (HO14.out.rd.more (by omega)) hs_aX).mono ?_
  rintro e w26 ⟨w0_w26, rfl, hx27, hy28⟩
  have z29 : w13.heap.size ≤ w26.heap.size := hy28.size
  obtain ⟨A0_w0_w26, n0_w0_w26, c0_w0_w26, A1_w0_w26, n1_w0_w26, c1_w0_w26, hv30⟩ : ∃ A0_w0_w26 n0_w0_w26 c0_w0_w26 A1_w0_w26 n1_w0_w26 c1_w0_w26, w0_w26 = .agg #[.slice A0_w0_w26 n0_w0_w26 c0_w0_w26, .slice A1_w0_w26 n1_w0_w26 c1_w0_w26] := by obtain ⟨_, _, _, _, _, _, _, _, _, _, _, rfl, _⟩ := hx27; exact ⟨_, _, _, _, _, _, rfl⟩
  subst hv30
  have HO31 := Lib.hid hx27
  clear hx27
  have HS32 := Lib.hid hy28
  clear hy28
  clear fc24 fc25
  have HO33 := Lib.hid (HO14.out.below HS32.out (by omega))
  clear HO14
  have HX34 := Lib.hid (HX22.out.below HS32.out HX22.out.lt)
  clear HX22
  have HB35 : Hid (Below w.heap.size w w26) := Lib.hid (HB23.out.trans (HS32.out.mono (by omega)))
  clear HB23
  clear HS32
  clear HO33
  have fc41 : (w26.alloc (.cells #[.slice A0_w0_w26 n0_w0_w26 c0_w0_w26, .slice A1_w0_w26 n1_w0_w26 c1_w0_w26] 24)).cell? ⟨w.heap.size, 0, none⟩ = some (.slice A0_aX n0_aX c0_aX) := (HX34.out.alloc _).cell 0
  have fc42 : (w26.alloc (.cells #[.slice A0_w0_w26 n0_w0_w26 c0_w0_w26, .slice A1_w0_w26 n1_w0_w26 c1_w0_w26] 24)).cell? ⟨w.heap.size, 1, none⟩ = some (.slice A1_aX n1_aX c1_aX) := (HX34.out.alloc _).cell 1
  go_wp2_with fail
  clear fc41 fc42
  obtain ⟨w43, hW44⟩ : ∃ W, Hid (w26.alloc (.cells #[.slice A0_w0_w26 n0_w0_w26 c0_w0_w26, .slice A1_w0_w26 n1_w0_w26 c1_w0_w26] 24) = W) := ⟨_, Lib.hid rfl⟩
  have z45 : w43.heap.size = w26.heap.size + 1 := by rw [← hW44.out, World.size_alloc]
  have HS46 : Hid (Below w26.heap.size w26 w43) := Lib.hid (by rw [← hW44.out]; exact (Below.refl _ _).alloc (Nat.le_refl _) _)
  have HX47 : Hid (Bx w43 w26.heap.size #[.slice A0_w0_w26 n0_w0_w26 c0_w0_w26, .slice A1_w0_w26 n1_w0_w26 c1_w0_w26] 24) := Lib.hid (by rw [← hW44.out]; exact Bx.new _ _ _)
  have HO48 := Lib.hid (HO31.out.below HS46.out (by omega))
  clear HO31
  have HX49 := Lib.hid (HX34.out.below HS46.out HX34.out.lt)
  clear HX34
  have HB50 : Hid (Below w.heap.size w w43) := Lib.hid (HB35.out.trans (HS46.out.mono (by omega)))
  clear HB35
  clear HS46
  rw [hW44.out]
  clear hW44
  refine (L_toMarked _ _ _ _ (RdMarked.below Ha_aX.out HB50.out) HB50.out.size hs_aX).mono ?_
  rintro e w37 ⟨v36, rfl, hx51, hy52⟩
  have z40 : w43.heap.size ≤ w37.heap.size := hy52.size
  obtain ⟨A0_v36, n0_v36, c0_v36, A1_v36, n1_v36, c1_v36, hv53⟩ : ∃ A0_v36 n0_v36 c0_v36 A1_v36 n1_v36 c1_v36, v36 = .agg #[.slice A0_v36 n0_v36 c0_v36, .slice A1_v36 n1_v36 c1_v36] := by obtain ⟨_, _, _, _, _, _, _, _, _, _, _, rfl, _⟩ := hx51; exact ⟨_, _, _, _, _, _, rfl⟩
  subst hv53
  have HO38 := Lib.hid hx51
  have HS39 := Lib.hid hy52
  clear hx51 hy52
  have HO54 := Lib.hid (HO48.out.below HS39.out (by omega))
  clear HO48
  have HX55 := Lib.hid (HX49.out.below HS39.out HX49.out.lt)
  clear HX49
  have HX56 := Lib.hid (HX47.out.below HS39.out HX47.out.lt)
  clear HX47
  have HB57 : Hid (Below w.heap.size w w37) := Lib.hid (HB50.out.trans (HS39.out.mono (by omega)))
  clear HB50
  clear HS39
  have fc58 : (w37.alloc (.cells #[.slice A0_v36 n0_v36 c0_v36, .slice A1_v36 n1_v36 c1_v36] 24)).cell? ⟨w.heap.size, 0, none⟩ = some (.slice A0_aX n0_aX c0_aX) := (HX55.out.alloc _).cell 0
  have fc59 : (w37.alloc (.cells #[.slice A0_v36 n0_v36 c0_v36, .slice A1_v36 n1_v36 c1_v36] 24)).cell? ⟨w.heap.size, 1, none⟩ = some (.slice A1_aX n1_aX c1_aX) := (HX55.out.alloc _).cell 1
  have fc60 : (w37.alloc (.cells #[.slice A0_v36 n0_v36 c0_v36, .slice A1_v36 n1_v36 c1_v36] 24)).cell? ⟨w26.heap.size, 0, none⟩ = some (.slice A0_w0_w26 n0_w0_w26 c0_w0_w26) := (HX56.out.alloc _).cell 0
  have fc61 : (w37.alloc (.cells #[.slice A0_v36 n0_v36 c0_v36, .slice A1_v36 n1_v36 c1_v36] 24)).cell? ⟨w26.heap.size, 1, none⟩ = some (.slice A1_w0_w26 n1_w0_w26 c1_w0_w26) := (HX56.out.alloc _).cell 1
  go_wp2_with fail
  clear fc58 fc59 fc60 fc61
  obtain ⟨w62, hW63⟩ : ∃ W, Hid (w37.alloc (.cells #[.slice A0_v36 n0_v36 c0_v36, .slice A1_v36 n1_v36 c1_v36] 24) = W) := ⟨_, Lib.hid rfl⟩
  have z64 : w62.heap.size = w37.heap.size + 1 := by rw [← hW63.out, World.size_alloc]
  have HS65 : Hid (Below w37.heap.size w37 w62) := Lib.hid (by rw [← hW63.out]; exact (Below.refl _ _).alloc (Nat.le_refl _) _)
  have HX66 : Hid (Bx w62 w37.heap.size #[.slice A0_v36 n0_v36 c0_v36, .slice A1_v36 n1_v36 c1_v36] 24) := Lib.hid (by rw [← hW63.out]; exact Bx.new _ _ _)
  have HO67 := Lib.hid (HO54.out.below HS65.out (by omega))
  clear HO54
  have HO68 := Lib.hid (HO38.out.below HS65.out (by omega))
  clear HO38
  have HX69 := Lib.hid (HX55.out.below HS65.out HX55.out.lt)
  clear HX55
  have HX70 := Lib.hid (HX56.out.below HS65.out HX56.out.lt)
  clear HX56
  have HB71 : Hid (Below w.heap.size w w62) := Lib.hid (HB57.out.trans (HS65.out.mono (by omega)))
  clear HB57
  clear HS65
  rw [hW63.out]
  clear hW63
  refine (X_i_MarkedScale _ d_aX aBy _ (HO68.out.rd.more (by omega)) hs_aX).mono ?_
  rintro e w72 ⟨g0_w72, rfl, hx73, hy74⟩
  have z75 : w62.heap.size ≤ w72.heap.size := hy74.size
  obtain ⟨A0_g0_w72, n0_g0_w72, c0_g0_w72, A1_g0_w72, n1_g0_w72, c1_g0_w72, hv76⟩ : ∃ A0_g0_w72 n0_g0_w72 c0_g0_w72 A1_g0_w72 n1_g0_w72 c1_g0_w72, g0_w72 = .agg #[.slice A0_g0_w72 n0_g0_w72 c0_g0_w72, .slice A1_g0_w72 n1_g0_w72 c1_g0_w72] := by obtain ⟨_, _, _, _, _, _, _, _, _, _, _, rfl, _⟩ := hx73; exact ⟨_, _, _, _, _, _, rfl⟩
  subst hv76
  have HO77 := Lib.hid hx73
  clear hx73
  have HS78 := Lib.hid hy74
  clear hy74
  have HO79 := Lib.hid (HO67.out.below HS78.out (by omega))
  clear HO67
  have HO80 := Lib.hid (HO68.out.below HS78.out (by omega))
  clear HO68
  have HX81 := Lib.hid (HX69.out.below HS78.out HX69.out.lt)
  clear HX69
  have HX82 := Lib.hid (HX70.out.below HS78.out HX70.out.lt)
  clear HX70
  have HX83 := Lib.hid (HX66.out.below HS78.out HX66.out.lt)
  clear HX66
  have HB84 : Hid (Below w.heap.size w w72) := Lib.hid (HB71.out.trans (HS78.out.mono (by omega)))
  clear HB71
  clear HS78
  have fc87 : (w72.alloc (.cells #[.slice A0_g0_w72 n0_g0_w72 c0_g0_w72, .slice A1_g0_w72 n1_g0_w72 c1_g0_w72] 24)).cell? ⟨w.heap.size, 0, none⟩ = some (.slice A0_aX n0_aX c0_aX) := (HX81.out.alloc _).cell 0
  have fc88 : (w72.alloc (.cells #[.slice A0_g0_w72 n0_g0_w72 c0_g0_w72, .slice A1_g0_w72 n1_g0_w72 c1_g0_w72] 24)).cell? ⟨w.heap.size, 1, none⟩ = some (.slice A1_aX n1_aX c1_aX) := (HX81.out.alloc _).cell 1
  have fc89 : (w72.alloc (.cells #[.slice A0_g0_w72 n0_g0_w72 c0_g0_w72, .slice A1_g0_w72 n1_g0_w72 c1_g0_w72] 24)).cell? ⟨w26.heap.size, 0, none⟩ = some (.slice A0_w0_w26 n0_w0_w26 c0_w0_w26) := (HX82.out.alloc _).cell 0
  have fc90 : (w72.alloc (.cells #[.slice A0_g0_w72 n0_g0_w72 c0_g0_w72, .slice A1_g0_w72 n1_g0_w72 c1_g0_w72] 24)).cell? ⟨w26.heap.size, 1, none⟩ = some (.slice A1_w0_w26 n1_w0_w26 c1_w0_w26) := (HX82.out.alloc _).cell 1
  have fc91 : (w72.alloc (.cells #[.slice A0_g0_w72 n0_g0_w72 c0_g0_w72, .slice A1_g0_w72 n1_g0_w72 c1_g0_w72] 24)).cell? ⟨w37.heap.size, 0, none⟩ = some (.slice A0_v36 n0_v36 c0_v36) := (HX83.out.alloc _).cell 0
  have fc92 : (w72.alloc (.cells #[.slice A0_g0_w72 n0_g0_w72 c0_g0_w72, .slice A1_g0_w72 n1_g0_w72 c1_g0_w72] 24)).cell? ⟨w37.heap.size, 1, none⟩ = some (.slice A1_v36 n1_v36 c1_v36) := (HX83.out.alloc _).cell 1
  go_wp2_with fail
  clear fc87 fc88 fc89 fc90 fc91 fc92
  obtain ⟨w93, hW94⟩ : ∃ W, Hid (w72.alloc (.cells #[.slice A0_g0_w72 n0_g0_w72 c0_g0_w72, .slice A1_g0_w72 n1_g0_w72 c1_g0_w72] 24) = W) := ⟨_, Lib.hid rfl⟩
  have z95 : w93.heap.size = w72.heap.size + 1 := by rw [← hW94.out, World.size_alloc]
  have HS96 : Hid (Below w72.heap.size w72 w93) := Lib.hid (by rw [← hW94.out]; exact (Below.refl _ _).alloc (Nat.le_refl _) _)
  have HX97 : Hid (Bx w93 w72.heap.size #[.slice A0_g0_w72 n0_g0_w72 c0_g0_w72, .slice A1_g0_w72 n1_g0_w72 c1_g0_w72] 24) := Lib.hid (by rw [← hW94.out]; exact Bx.new _ _ _)
  have HO98 := Lib.hid (HO79.out.below HS96.out (by omega))
  clear HO79
  have HO99 := Lib.hid (HO80.out.below HS96.out (by omega))
  clear HO80
  have HO100 := Lib.hid (HO77.out.below HS96.out (by omega))
  clear HO77
  have HX101 := Lib.hid (HX81.out.below HS96.out HX81.out.lt)
  clear HX81
  have HX102 := Lib.hid (HX82.out.below HS96.out HX82.out.lt)
  clear HX82
  have HX103 := Lib.hid (HX83.out.below HS96.out HX83.out.lt)
  clear HX83
  have HB104 : Hid (Below w.heap.size w w93) := Lib.hid (HB84.out.trans (HS96.out.mono (by omega)))
  clear HB84
  clear HS96
  rw [hW94.out]
  clear hW94
  refine (L_eqMarked _ _ _ _ _ _ HO100.out.rd HO98.out.rd (by omega) (by omega) HO100.out.small).mono ?_
  rintro e w85 ⟨rfl, hx86⟩
  have z105 : w93.heap.size ≤ w85.heap.size := hx86.size
  have HS106 := Lib.hid hx86
  clear hx86
  have HO107 := Lib.hid (HO98.out.below HS106.out (by omega))
  clear HO98
  have HO108 := Lib.hid (HO99.out.below HS106.out (by omega))
  clear HO99
  have HO109 := Lib.hid (HO100.out.below HS106.out (by omega))
  clear HO100
  have HX110 := Lib.hid (HX101.out.below HS106.out HX101.out.lt)
  clear HX101
  have HX111 := Lib.hid (HX102.out.below HS106.out HX102.out.lt)
  clear HX102
  have HX112 := Lib.hid (HX103.out.below HS106.out HX103.out.lt)
  clear HX103
  have HX113 := Lib.hid (HX97.out.below HS106.out HX97.out.lt)
  clear HX97
  have HB114 : Hid (Below w.heap.size w w85) := Lib.hid (HB104.out.trans (HS106.out.mono (by omega)))
  clear HB104
  clear HS106
  have hq_aX_0 : w85.cell? ⟨w.heap.size, 0, none⟩ = some (.slice A0_aX n0_aX c0_aX) := HX110.out.cell 0
  have hq_aX_1 : w85.cell? ⟨w.heap.size, 1, none⟩ = some (.slice A1_aX n1_aX c1_aX) := HX110.out.cell 1
  have hq_x0_0 : w85.cell? ⟨w37.heap.size, 0, none⟩ = some (.slice A0_v36 n0_v36 c0_v36) := HX112.out.cell 0
  have hq_x0_1 : w85.cell? ⟨w37.heap.size, 1, none⟩ = some (.slice A1_v36 n1_v36 c1_v36) := HX112.out.cell 1
  have hbq := Below.refl w85.heap.size w85
  have hsq := And.intro hbq (And.intro hq_aX_0 (And.intro hq_aX_1 (And.intro hq_x0_0 hq_x0_1)))
  go_wp2
  go_region_held3 (fun w' => Below w85.heap.size w85 w' ∧ w'.cell? ⟨w.heap.size, 0, none⟩ = some (.slice A0_aX n0_aX c0_aX) ∧ w'.cell? ⟨w.heap.size, 1, none⟩ = some (.slice A1_aX n1_aX c1_aX) ∧ w'.cell? ⟨w37.heap.size, 0, none⟩ = some (.slice A0_v36 n0_v36 c0_v36) ∧ w'.cell? ⟨w37.heap.size, 1, none⟩ = some (.slice A1_v36 n1_v36 c1_v36))
    (first | exact ⟨hbq, hq_aX_0, hq_aX_1, hq_x0_0, hq_x0_1⟩ | exact ⟨hbq.drew, hq_aX_0, hq_aX_1, hq_x0_0, hq_x0_1⟩)
    (first
      | (go_at_call 33
         refine (L_toMarked w.heap.size _ d_aX _ (RdMarked.below Ha_aX.out (Below.trans HB114.out (Below.mono (by first | exact hbq | exact hbq.drew) (by exact HB114.out.size)))) (by exact Nat.le_trans (HB114.out).size hbq.size) hs_aX).mono ?_
         rintro e w3 ⟨vq, rfl, hoq, hbq3⟩
         obtain ⟨A0_vq, n0_vq, c0_vq, A1_vq, n1_vq, c1_vq, hvq⟩ : ∃ A0_vq n0_vq c0_vq A1_vq n1_vq c1_vq, vq = .agg #[.slice A0_vq n0_vq c0_vq, .slice A1_vq n1_vq c1_vq] := by obtain ⟨_, _, _, _, _, _, _, _, _, _, _, rfl, _⟩ := hoq; exact ⟨_, _, _, _, _, _, rfl⟩
         subst hvq
         have hbn : Below w85.heap.size w85 w3 := Below.trans (by first | exact hbq | exact hbq.drew) (hbq3.mono (by exact hbq.size))
         have nhq_aX_0 : w3.cell? ⟨w.heap.size, 0, none⟩ = some (.slice A0_aX n0_aX c0_aX) := (HX110.out.below hbn HX110.out.lt).cell 0
         have nhq_aX_1 : w3.cell? ⟨w.heap.size, 1, none⟩ = some (.slice A1_aX n1_aX c1_aX) := (HX110.out.below hbn HX110.out.lt).cell 1
         have nhq_x0_0 : w3.cell? ⟨w37.heap.size, 0, none⟩ = some (.slice A0_v36 n0_v36 c0_v36) := (HX112.out.below hbn HX112.out.lt).cell 0
         have nhq_x0_1 : w3.cell? ⟨w37.heap.size, 1, none⟩ = some (.slice A1_v36 n1_v36 c1_v36) := (HX112.out.below hbn HX112.out.lt).cell 1
         clear hbq hq_aX_0 hq_aX_1 hq_x0_0 hq_x0_1 hbq3
         have hbq := hbn
         have hq_aX_0 := nhq_aX_0
         have hq_aX_1 := nhq_aX_1
         have hq_x0_0 := nhq_x0_0
         have hq_x0_1 := nhq_x0_1
         clear hbn nhq_aX_0 nhq_aX_1 nhq_x0_0 nhq_x0_1)
      | (go_at_call 26
         refine (L_eqMarked _ _ _ _ d_aX _ (by exact HO108.out.rd.below (hbq.mono (by omega))) (by exact hoq.rd) (by have := hbq.size; omega) (by exact Nat.le_refl _) hs_aX).mono ?_
         rintro e w4 ⟨rfl, hbq4⟩
         have hbn : Below w85.heap.size w85 w4 := Below.trans (by first | exact hbq | exact hbq.drew) (hbq4.mono (by exact hbq.size))
         have nhq_aX_0 : w4.cell? ⟨w.heap.size, 0, none⟩ = some (.slice A0_aX n0_aX c0_aX) := (HX110.out.below hbn HX110.out.lt).cell 0
         have nhq_aX_1 : w4.cell? ⟨w.heap.size, 1, none⟩ = some (.slice A1_aX n1_aX c1_aX) := (HX110.out.below hbn HX110.out.lt).cell 1
         have nhq_x0_0 : w4.cell? ⟨w37.heap.size, 0, none⟩ = some (.slice A0_v36 n0_v36 c0_v36) := (HX112.out.below hbn HX112.out.lt).cell 0
         have nhq_x0_1 : w4.cell? ⟨w37.heap.size, 1, none⟩ = some (.slice A1_v36 n1_v36 c1_v36) := (HX112.out.below hbn HX112.out.lt).cell 1
         clear hbq hq_aX_0 hq_aX_1 hq_x0_0 hq_x0_1 hbq4
         have hbq := hbn
         have hq_aX_0 := nhq_aX_0
         have hq_aX_1 := nhq_aX_1
         have hq_x0_0 := nhq_x0_0
         have hq_x0_1 := nhq_x0_1
         clear hbn nhq_aX_0 nhq_aX_1 nhq_x0_0 nhq_x0_1))
  obtain ⟨w115, hwq⟩ : ∃ W, Hid (_ = W) := ⟨_, Lib.hid (Eq.refl w4)⟩
  have HS116 : Hid (Below w85.heap.size w85 w115) := Lib.hid (by rw [← hwq.out]; exact hbq)
  have z117 : w85.heap.size ≤ w115.heap.size := HS116.out.size
  try rw [hwq.out]
  clear hbq hsq hwq hoq hq_aX_0 hq_aX_1 hq_x0_0 hq_x0_1
  have HO118 := Lib.hid (HO107.out.below HS116.out (by omega))
  clear HO107
  have HO119 := Lib.hid (HO108.out.below HS116.out (by omega))
  clear HO108
  have HO120 := Lib.hid (HO109.out.below HS116.out (by omega))
  clear HO109
  have HX121 := Lib.hid (HX110.out.below HS116.out HX110.out.lt)
  clear HX110
  have HX122 := Lib.hid (HX111.out.below HS116.out HX111.out.lt)
  clear HX111
  have HX123 := Lib.hid (HX112.out.below HS116.out HX112.out.lt)
  clear HX112
  have HX124 := Lib.hid (HX113.out.below HS116.out HX113.out.lt)
  clear HX113
  have HB125 : Hid (Below w.heap.size w w115) := Lib.hid (HB114.out.trans (HS116.out.mono (by omega)))
  clear HB114
  clear HS116
  have fc134 : w115.cell? ⟨w.heap.size, 0, none⟩ = some (.slice A0_aX n0_aX c0_aX) := HX121.out.cell 0
  have fc135 : w115.cell? ⟨w.heap.size, 1, none⟩ = some (.slice A1_aX n1_aX c1_aX) := HX121.out.cell 1
  have fc136 : w115.cell? ⟨w26.heap.size, 0, none⟩ = some (.slice A0_w0_w26 n0_w0_w26 c0_w0_w26) := HX122.out.cell 0
  have fc137 : w115.cell? ⟨w26.heap.size, 1, none⟩ = some (.slice A1_w0_w26 n1_w0_w26 c1_w0_w26) := HX122.out.cell 1
  have fc138 : w115.cell? ⟨w37.heap.size, 0, none⟩ = some (.slice A0_v36 n0_v36 c0_v36) := HX123.out.cell 0
  have fc139 : w115.cell? ⟨w37.heap.size, 1, none⟩ = some (.slice A1_v36 n1_v36 c1_v36) := HX123.out.cell 1
  have fc140 : w115.cell? ⟨w72.heap.size, 0, none⟩ = some (.slice A0_g0_w72 n0_g0_w72 c0_g0_w72) := HX124.out.cell 0
  have fc141 : w115.cell? ⟨w72.heap.size, 1, none⟩ = some (.slice A1_g0_w72 n1_g0_w72 c1_g0_w72) := HX124.out.cell 1
  go_wp2_with fail
  refine (L_markMarked _ _ _ _ _ _ HO119.out (by omega) (by omega) (by omega)).mono ?_
  rintro e w126 ⟨K127, rfl, hk128, h0_129, h1_130, hx131, hy132⟩
  have z133 : w115.heap.size ≤ w126.heap.size := hy132.size
  have HO142 := Lib.hid hx131
  have HS143 := Lib.hid hy132
  clear hx131 hy132
  clear fc134 fc135 fc136 fc137 fc138 fc139 fc140 fc141
  have HO144 := Lib.hid (HO118.out.kept HS143.out (by omega) (by omega))
  clear HO118
  have HO145 := Lib.hid (HO120.out.kept HS143.out (by omega) (by omega))
  clear HO120
  have HX146 := Lib.hid (HX121.out.kept HS143.out (by omega))
  clear HX121
  have HX147 := Lib.hid (HX122.out.kept HS143.out (by omega))
  clear HX122
  have HX148 := Lib.hid (HX123.out.kept HS143.out (by omega))
  clear HX123
  have HX149 := Lib.hid (HX124.out.kept HS143.out (by omega))
  clear HX124
  have HB150 : Hid (Below w.heap.size w w126) := Lib.hid (HB125.out.trans ((HS143.out.to_below (by omega)).mono (by omega)))
  clear HB125
  clear HS143 HO119
  clear HO142
  have fc153 : w126.cell? ⟨w.heap.size, 0, none⟩ = some (.slice A0_aX n0_aX c0_aX) := HX146.out.cell 0
  have fc154 : w126.cell? ⟨w.heap.size, 1, none⟩ = some (.slice A1_aX n1_aX c1_aX) := HX146.out.cell 1
  have fc155 : w126.cell? ⟨w26.heap.size, 0, none⟩ = some (.slice A0_w0_w26 n0_w0_w26 c0_w0_w26) := HX147.out.cell 0
  have fc156 : w126.cell? ⟨w26.heap.size, 1, none⟩ = some (.slice A1_w0_w26 n1_w0_w26 c1_w0_w26) := HX147.out.cell 1
  have fc157 : w126.cell? ⟨w37.heap.size, 0, none⟩ = some (.slice A0_v36 n0_v36 c0_v36) := HX148.out.cell 0
  have fc158 : w126.cell? ⟨w37.heap.size, 1, none⟩ = some (.slice A1_v36 n1_v36 c1_v36) := HX148.out.cell 1
  have fc159 : w126.cell? ⟨w72.heap.size, 0, none⟩ = some (.slice A0_g0_w72 n0_g0_w72 c0_g0_w72) := HX149.out.cell 0
  have fc160 : w126.cell? ⟨w72.heap.size, 1, none⟩ = some (.slice A1_g0_w72 n1_g0_w72 c1_g0_w72) := HX149.out.cell 1
  go_wp2_with fail
  refine (L_eqMarked _ _ _ _ _ _ HO145.out.rd HO144.out.rd (by omega) (by omega) HO145.out.small).mono ?_
  rintro e w151 ⟨rfl, hx152⟩
  have z161 : w126.heap.size ≤ w151.heap.size := hx152.size
  have HS162 := Lib.hid hx152
  clear hx152
  clear fc153 fc154 fc155 fc156 fc157 fc158 fc159 fc160
  have HO163 := Lib.hid (HO144.out.below HS162.out (by omega))
  clear HO144
  have HO164 := Lib.hid (HO145.out.below HS162.out (by omega))
  clear HO145
  have HX165 := Lib.hid (HX146.out.below HS162.out HX146.out.lt)
  clear HX146
  have HX166 := Lib.hid (HX147.out.below HS162.out HX147.out.lt)
  clear HX147
  have HX167 := Lib.hid (HX148.out.below HS162.out HX148.out.lt)
  clear HX148
  have HX168 := Lib.hid (HX149.out.below HS162.out HX149.out.lt)
  clear HX149
  have HB169 : Hid (Below w.heap.size w w151) := Lib.hid (HB150.out.trans (HS162.out.mono (by omega)))
  clear HB150
  clear HS162
  have hs170 := HO164.out.small
  have fc179 : w151.cell? ⟨w.heap.size, 0, none⟩ = some (.slice A0_aX n0_aX c0_aX) := HX165.out.cell 0
  have fc180 : w151.cell? ⟨w.heap.size, 1, none⟩ = some (.slice A1_aX n1_aX c1_aX) := HX165.out.cell 1
  have fc181 : w151.cell? ⟨w26.heap.size, 0, none⟩ = some (.slice A0_w0_w26 n0_w0_w26 c0_w0_w26) := HX166.out.cell 0
  have fc182 : w151.cell? ⟨w26.heap.size, 1, none⟩ = some (.slice A1_w0_w26 n1_w0_w26 c1_w0_w26) := HX166.out.cell 1
  have fc183 : w151.cell? ⟨w37.heap.size, 0, none⟩ = some (.slice A0_v36 n0_v36 c0_v36) := HX167.out.cell 0
  have fc184 : w151.cell? ⟨w37.heap.size, 1, none⟩ = some (.slice A1_v36 n1_v36 c1_v36) := HX167.out.cell 1
  have fc185 : w151.cell? ⟨w72.heap.size, 0, none⟩ = some (.slice A0_g0_w72 n0_g0_w72 c0_g0_w72) := HX168.out.cell 0
  have fc186 : w151.cell? ⟨w72.heap.size, 1, none⟩ = some (.slice A1_g0_w72 n1_g0_w72 c1_g0_w72) := HX168.out.cell 1
  go_wp2_with fail
  refine (L_markMarked _ _ _ _ _ _ HO164.out (by omega) (by omega) (by omega)).mono ?_
  rintro e w171 ⟨K172, rfl, hk173, h0_174, h1_175, hx176, hy177⟩
  have z178 : w151.heap.size ≤ w171.heap.size := hy177.size
  have HO187 := Lib.hid hx176
  have HS188 := Lib.hid hy177
  clear hx176 hy177
  clear fc179 fc180 fc181 fc182 fc183 fc184 fc185 fc186
  have HO189 := Lib.hid (HO163.out.kept HS188.out (by omega) (by omega))
  clear HO163
  have HX190 := Lib.hid (HX165.out.kept HS188.out (by omega))
  clear HX165
  have HX191 := Lib.hid (HX166.out.kept HS188.out (by omega))
  clear HX166
  have HX192 := Lib.hid (HX167.out.kept HS188.out (by omega))
  clear HX167
  have HX193 := Lib.hid (HX168.out.kept HS188.out (by omega))
  clear HX168
  have HB194 : Hid (Below w.heap.size w w171) := Lib.hid (HB169.out.trans ((HS188.out.to_below (by omega)).mono (by omega)))
  clear HB169
  clear HS188 HO164
  have fc201 : w171.cell? ⟨w.heap.size, 0, none⟩ = some (.slice A0_aX n0_aX c0_aX) := HX190.out.cell 0
  have fc202 : w171.cell? ⟨w.heap.size, 1, none⟩ = some (.slice A1_aX n1_aX c1_aX) := HX190.out.cell 1
  have fc203 : w171.cell? ⟨w26.heap.size, 0, none⟩ = some (.slice A0_w0_w26 n0_w0_w26 c0_w0_w26) := HX191.out.cell 0
  have fc204 : w171.cell? ⟨w26.heap.size, 1, none⟩ = some (.slice A1_w0_w26 n1_w0_w26 c1_w0_w26) := HX191.out.cell 1
  have fc205 : w171.cell? ⟨w37.heap.size, 0, none⟩ = some (.slice A0_v36 n0_v36 c0_v36) := HX192.out.cell 0
  have fc206 : w171.cell? ⟨w37.heap.size, 1, none⟩ = some (.slice A1_v36 n1_v36 c1_v36) := HX192.out.cell 1
  have fc207 : w171.cell? ⟨w72.heap.size, 0, none⟩ = some (.slice A0_g0_w72 n0_g0_w72 c0_g0_w72) := HX193.out.cell 0
  have fc208 : w171.cell? ⟨w72.heap.size, 1, none⟩ = some (.slice A1_g0_w72 n1_g0_w72 c1_g0_w72) := HX193.out.cell 1
  go_wp2_with fail
  refine (L_heldMarked _ _ (R_MarkedScale_0 d_aX aBy) 1 _ _ HO187.out.rd (by omega) hs170 (Lib.hid rfl) (by omega) (by omega)).mono ?_
  rintro e w195 ⟨K196, rfl, hk197, h0_198, h1_199, hx200⟩
  have z209 : w171.heap.size ≤ w195.heap.size := hx200.size
  have HS210 := Lib.hid hx200
  clear hx200
  have HE211 : Hid (K196 = K172) := Lib.hid (by rw [hk197.out, hk173.out])
  have hne212 : (K196 != K172) = false := by rw [HE211.out]; simp
  clear fc201 fc202 fc203 fc204 fc205 fc206 fc207 fc208
  have HO213 := Lib.hid (HO189.out.below HS210.out (by omega))
  clear HO189
  have HO214 := Lib.hid (HO187.out.below HS210.out (by omega))
  clear HO187
  have HX215 := Lib.hid (HX190.out.below HS210.out HX190.out.lt)
  clear HX190
  have HX216 := Lib.hid (HX191.out.below HS210.out HX191.out.lt)
  clear HX191
  have HX217 := Lib.hid (HX192.out.below HS210.out HX192.out.lt)
  clear HX192
  have HX218 := Lib.hid (HX193.out.below HS210.out HX193.out.lt)
  clear HX193
  have HB219 : Hid (Below w.heap.size w w195) := Lib.hid (HB194.out.trans (HS210.out.mono (by omega)))
  clear HB194
  clear HS210
  have fc225 : w195.cell? ⟨w.heap.size, 0, none⟩ = some (.slice A0_aX n0_aX c0_aX) := HX215.out.cell 0
  have fc226 : w195.cell? ⟨w.heap.size, 1, none⟩ = some (.slice A1_aX n1_aX c1_aX) := HX215.out.cell 1
  have fc227 : w195.cell? ⟨w26.heap.size, 0, none⟩ = some (.slice A0_w0_w26 n0_w0_w26 c0_w0_w26) := HX216.out.cell 0
  have fc228 : w195.cell? ⟨w26.heap.size, 1, none⟩ = some (.slice A1_w0_w26 n1_w0_w26 c1_w0_w26) := HX216.out.cell 1
  have fc229 : w195.cell? ⟨w37.heap.size, 0, none⟩ = some (.slice A0_v36 n0_v36 c0_v36) := HX217.out.cell 0
  have fc230 : w195.cell? ⟨w37.heap.size, 1, none⟩ = some (.slice A1_v36 n1_v36 c1_v36) := HX217.out.cell 1
  have fc231 : w195.cell? ⟨w72.heap.size, 0, none⟩ = some (.slice A0_g0_w72 n0_g0_w72 c0_g0_w72) := HX218.out.cell 0
  have fc232 : w195.cell? ⟨w72.heap.size, 1, none⟩ = some (.slice A1_g0_w72 n1_g0_w72 c1_g0_w72) := HX218.out.cell 1
  go_wp2_with fail
  refine (L_toMarked _ _ _ _ (RdMarked.below Ha_aX.out HB219.out) HB219.out.size hs_aX).mono ?_
  rintro e w221 ⟨v220, rfl, hx233, hy234⟩
  have z224 : w195.heap.size ≤ w221.heap.size := hy234.size
  obtain ⟨A0_v220, n0_v220, c0_v220, A1_v220, n1_v220, c1_v220, hv235⟩ : ∃ A0_v220 n0_v220 c0_v220 A1_v220 n1_v220 c1_v220, v220 = .agg #[.slice A0_v220 n0_v220 c0_v220, .slice A1_v220 n1_v220 c1_v220] := by obtain ⟨_, _, _, _, _, _, _, _, _, _, _, rfl, _⟩ := hx233; exact ⟨_, _, _, _, _, _, rfl⟩
  subst hv235
  have HO222 := Lib.hid hx233
  have HS223 := Lib.hid hy234
  clear hx233 hy234
  clear fc225 fc226 fc227 fc228 fc229 fc230 fc231 fc232
  have HO236 := Lib.hid (HO213.out.below HS223.out (by omega))
  clear HO213
  have HO237 := Lib.hid (HO214.out.below HS223.out (by omega))
  clear HO214
  have HX238 := Lib.hid (HX215.out.below HS223.out HX215.out.lt)
  clear HX215
  have HX239 := Lib.hid (HX216.out.below HS223.out HX216.out.lt)
  clear HX216
  have HX240 := Lib.hid (HX217.out.below HS223.out HX217.out.lt)
  clear HX217
  have HX241 := Lib.hid (HX218.out.below HS223.out HX218.out.lt)
  clear HX218
  have HB242 : Hid (Below w.heap.size w w221) := Lib.hid (HB219.out.trans (HS223.out.mono (by omega)))
  clear HB219
  clear HS223
  have fc243 : w221.cell? ⟨w.heap.size, 0, none⟩ = some (.slice A0_aX n0_aX c0_aX) := HX238.out.cell 0
  have fc244 : w221.cell? ⟨w.heap.size, 1, none⟩ = some (.slice A1_aX n1_aX c1_aX) := HX238.out.cell 1
  have fc245 : w221.cell? ⟨w26.heap.size, 0, none⟩ = some (.slice A0_w0_w26 n0_w0_w26 c0_w0_w26) := HX239.out.cell 0
  have fc246 : w221.cell? ⟨w26.heap.size, 1, none⟩ = some (.slice A1_w0_w26 n1_w0_w26 c1_w0_w26) := HX239.out.cell 1
  have fc247 : w221.cell? ⟨w37.heap.size, 0, none⟩ = some (.slice A0_v36 n0_v36 c0_v36) := HX240.out.cell 0
  have fc248 : w221.cell? ⟨w37.heap.size, 1, none⟩ = some (.slice A1_v36 n1_v36 c1_v36) := HX240.out.cell 1
  have fc249 : w221.cell? ⟨w72.heap.size, 0, none⟩ = some (.slice A0_g0_w72 n0_g0_w72 c0_g0_w72) := HX241.out.cell 0
  have fc250 : w221.cell? ⟨w72.heap.size, 1, none⟩ = some (.slice A1_g0_w72 n1_g0_w72 c1_g0_w72) := HX241.out.cell 1
  go_wp2_with fail
  refine (X_i_MarkedScale _ d_aX aBy _ (HO222.out.rd.more (by omega)) hs_aX).mono ?_
  rintro e w251 ⟨h0_w251, rfl, hx252, hy253⟩
  have z254 : w221.heap.size ≤ w251.heap.size := hy253.size
  obtain ⟨A0_h0_w251, n0_h0_w251, c0_h0_w251, A1_h0_w251, n1_h0_w251, c1_h0_w251, hv255⟩ : ∃ A0_h0_w251 n0_h0_w251 c0_h0_w251 A1_h0_w251 n1_h0_w251 c1_h0_w251, h0_w251 = .agg #[.slice A0_h0_w251 n0_h0_w251 c0_h0_w251, .slice A1_h0_w251 n1_h0_w251 c1_h0_w251] := by obtain ⟨_, _, _, _, _, _, _, _, _, _, _, rfl, _⟩ := hx252; exact ⟨_, _, _, _, _, _, rfl⟩
  subst hv255
  have HO256 := Lib.hid hx252
  clear hx252
  have HS257 := Lib.hid hy253
  clear hy253
  clear fc243 fc244 fc245 fc246 fc247 fc248 fc249 fc250
  have HO258 := Lib.hid (HO236.out.below HS257.out (by omega))
  clear HO236
  have HO259 := Lib.hid (HO237.out.below HS257.out (by omega))
  clear HO237
  have HO260 := Lib.hid (HO222.out.below HS257.out (by omega))
  clear HO222
  have HX261 := Lib.hid (HX238.out.below HS257.out HX238.out.lt)
  clear HX238
  have HX262 := Lib.hid (HX239.out.below HS257.out HX239.out.lt)
  clear HX239
  have HX263 := Lib.hid (HX240.out.below HS257.out HX240.out.lt)
  clear HX240
  have HX264 := Lib.hid (HX241.out.below HS257.out HX241.out.lt)
  clear HX241
  have HB265 : Hid (Below w.heap.size w w251) := Lib.hid (HB242.out.trans (HS257.out.mono (by omega)))
  clear HB242
  clear HS257
  clear HO260
  have fc268 : (w251.alloc (.cells #[.slice A0_h0_w251 n0_h0_w251 c0_h0_w251, .slice A1_h0_w251 n1_h0_w251 c1_h0_w251] 24)).cell? ⟨w.heap.size, 0, none⟩ = some (.slice A0_aX n0_aX c0_aX) := (HX261.out.alloc _).cell 0
  have fc269 : (w251.alloc (.cells #[.slice A0_h0_w251 n0_h0_w251 c0_h0_w251, .slice A1_h0_w251 n1_h0_w251 c1_h0_w251] 24)).cell? ⟨w.heap.size, 1, none⟩ = some (.slice A1_aX n1_aX c1_aX) := (HX261.out.alloc _).cell 1
  have fc270 : (w251.alloc (.cells #[.slice A0_h0_w251 n0_h0_w251 c0_h0_w251, .slice A1_h0_w251 n1_h0_w251 c1_h0_w251] 24)).cell? ⟨w26.heap.size, 0, none⟩ = some (.slice A0_w0_w26 n0_w0_w26 c0_w0_w26) := (HX262.out.alloc _).cell 0
  have fc271 : (w251.alloc (.cells #[.slice A0_h0_w251 n0_h0_w251 c0_h0_w251, .slice A1_h0_w251 n1_h0_w251 c1_h0_w251] 24)).cell? ⟨w26.heap.size, 1, none⟩ = some (.slice A1_w0_w26 n1_w0_w26 c1_w0_w26) := (HX262.out.alloc _).cell 1
  have fc272 : (w251.alloc (.cells #[.slice A0_h0_w251 n0_h0_w251 c0_h0_w251, .slice A1_h0_w251 n1_h0_w251 c1_h0_w251] 24)).cell? ⟨w37.heap.size, 0, none⟩ = some (.slice A0_v36 n0_v36 c0_v36) := (HX263.out.alloc _).cell 0
  have fc273 : (w251.alloc (.cells #[.slice A0_h0_w251 n0_h0_w251 c0_h0_w251, .slice A1_h0_w251 n1_h0_w251 c1_h0_w251] 24)).cell? ⟨w37.heap.size, 1, none⟩ = some (.slice A1_v36 n1_v36 c1_v36) := (HX263.out.alloc _).cell 1
  have fc274 : (w251.alloc (.cells #[.slice A0_h0_w251 n0_h0_w251 c0_h0_w251, .slice A1_h0_w251 n1_h0_w251 c1_h0_w251] 24)).cell? ⟨w72.heap.size, 0, none⟩ = some (.slice A0_g0_w72 n0_g0_w72 c0_g0_w72) := (HX264.out.alloc _).cell 0
  have fc275 : (w251.alloc (.cells #[.slice A0_h0_w251 n0_h0_w251 c0_h0_w251, .slice A1_h0_w251 n1_h0_w251 c1_h0_w251] 24)).cell? ⟨w72.heap.size, 1, none⟩ = some (.slice A1_g0_w72 n1_g0_w72 c1_g0_w72) := (HX264.out.alloc _).cell 1
  go_wp2_with fail
  clear fc268 fc269 fc270 fc271 fc272 fc273 fc274 fc275
  obtain ⟨w276, hW277⟩ : ∃ W, Hid (w251.alloc (.cells #[.slice A0_h0_w251 n0_h0_w251 c0_h0_w251, .slice A1_h0_w251 n1_h0_w251 c1_h0_w251] 24) = W) := ⟨_, Lib.hid rfl⟩
  have z278 : w276.heap.size = w251.heap.size + 1 := by rw [← hW277.out, World.size_alloc]
  have HS279 : Hid (Below w251.heap.size w251 w276) := Lib.hid (by rw [← hW277.out]; exact (Below.refl _ _).alloc (Nat.le_refl _) _)
  have HX280 : Hid (Bx w276 w251.heap.size #[.slice A0_h0_w251 n0_h0_w251 c0_h0_w251, .slice A1_h0_w251 n1_h0_w251 c1_h0_w251] 24) := Lib.hid (by rw [← hW277.out]; exact Bx.new _ _ _)
  have HO281 := Lib.hid (HO258.out.below HS279.out (by omega))
  clear HO258
  have HO282 := Lib.hid (HO259.out.below HS279.out (by omega))
  clear HO259
  have HO283 := Lib.hid (HO256.out.below HS279.out (by omega))
  clear HO256
  have HX284 := Lib.hid (HX261.out.below HS279.out HX261.out.lt)
  clear HX261
  have HX285 := Lib.hid (HX262.out.below HS279.out HX262.out.lt)
  clear HX262
  have HX286 := Lib.hid (HX263.out.below HS279.out HX263.out.lt)
  clear HX263
  have HX287 := Lib.hid (HX264.out.below HS279.out HX264.out.lt)
  clear HX264
  have HB288 : Hid (Below w.heap.size w w276) := Lib.hid (HB265.out.trans (HS279.out.mono (by omega)))
  clear HB265
  clear HS279
  rw [hW277.out]
  clear hW277
  refine (L_eqMarked _ _ _ _ _ _ HO283.out.rd HO281.out.rd (by omega) (by omega) HO283.out.small).mono ?_
  rintro e w266 ⟨rfl, hx267⟩
  have z289 : w276.heap.size ≤ w266.heap.size := hx267.size
  have HS290 := Lib.hid hx267
  clear hx267
  have HO291 := Lib.hid (HO281.out.below HS290.out (by omega))
  clear HO281
  have HO292 := Lib.hid (HO282.out.below HS290.out (by omega))
  clear HO282
  have HO293 := Lib.hid (HO283.out.below HS290.out (by omega))
  clear HO283
  have HX294 := Lib.hid (HX284.out.below HS290.out HX284.out.lt)
  clear HX284
  have HX295 := Lib.hid (HX285.out.below HS290.out HX285.out.lt)
  clear HX285
  have HX296 := Lib.hid (HX286.out.below HS290.out HX286.out.lt)
  clear HX286
  have HX297 := Lib.hid (HX287.out.below HS290.out HX287.out.lt)
  clear HX287
  have HX298 := Lib.hid (HX280.out.below HS290.out HX280.out.lt)
  clear HX280
  have HB299 : Hid (Below w.heap.size w w266) := Lib.hid (HB288.out.trans (HS290.out.mono (by omega)))
  clear HB288
  clear HS290
  have fc306 : w266.cell? ⟨w.heap.size, 0, none⟩ = some (.slice A0_aX n0_aX c0_aX) := HX294.out.cell 0
  have fc307 : w266.cell? ⟨w.heap.size, 1, none⟩ = some (.slice A1_aX n1_aX c1_aX) := HX294.out.cell 1
  have fc308 : w266.cell? ⟨w26.heap.size, 0, none⟩ = some (.slice A0_w0_w26 n0_w0_w26 c0_w0_w26) := HX295.out.cell 0
  have fc309 : w266.cell? ⟨w26.heap.size, 1, none⟩ = some (.slice A1_w0_w26 n1_w0_w26 c1_w0_w26) := HX295.out.cell 1
  have fc310 : w266.cell? ⟨w37.heap.size, 0, none⟩ = some (.slice A0_v36 n0_v36 c0_v36) := HX296.out.cell 0
  have fc311 : w266.cell? ⟨w37.heap.size, 1, none⟩ = some (.slice A1_v36 n1_v36 c1_v36) := HX296.out.cell 1
  have fc312 : w266.cell? ⟨w72.heap.size, 0, none⟩ = some (.slice A0_g0_w72 n0_g0_w72 c0_g0_w72) := HX297.out.cell 0
  have fc313 : w266.cell? ⟨w72.heap.size, 1, none⟩ = some (.slice A1_g0_w72 n1_g0_w72 c1_g0_w72) := HX297.out.cell 1
  have fc314 : w266.cell? ⟨w251.heap.size, 0, none⟩ = some (.slice A0_h0_w251 n0_h0_w251 c0_h0_w251) := HX298.out.cell 0
  have fc315 : w266.cell? ⟨w251.heap.size, 1, none⟩ = some (.slice A1_h0_w251 n1_h0_w251 c1_h0_w251) := HX298.out.cell 1
  go_wp2_with fail
  refine (L_heldMarked _ _ (R_MarkedScale_0 d_aX aBy) 1 _ _ HO292.out.rd (by omega) hs170 (Lib.hid rfl) (by omega) (by omega)).mono ?_
  rintro e w300 ⟨K301, rfl, hk302, h0_303, h1_304, hx305⟩
  have z316 : w266.heap.size ≤ w300.heap.size := hx305.size
  have HS317 := Lib.hid hx305
  clear hx305
  have HE318 : Hid (K301 = K172) := Lib.hid (by rw [hk302.out, hk173.out])
  have hne319 : (K301 != K172) = false := by rw [HE318.out]; simp
  clear fc306 fc307 fc308 fc309 fc310 fc311 fc312 fc313 fc314 fc315
  have HO320 := Lib.hid (HO291.out.below HS317.out (by omega))
  clear HO291
  have HO321 := Lib.hid (HO292.out.below HS317.out (by omega))
  clear HO292
  have HO322 := Lib.hid (HO293.out.below HS317.out (by omega))
  clear HO293
  have HX323 := Lib.hid (HX294.out.below HS317.out HX294.out.lt)
  clear HX294
  have HX324 := Lib.hid (HX295.out.below HS317.out HX295.out.lt)
  clear HX295
  have HX325 := Lib.hid (HX296.out.below HS317.out HX296.out.lt)
  clear HX296
  have HX326 := Lib.hid (HX297.out.below HS317.out HX297.out.lt)
  clear HX297
  have HX327 := Lib.hid (HX298.out.below HS317.out HX298.out.lt)
  clear HX298
  have HB328 : Hid (Below w.heap.size w w300) := Lib.hid (HB299.out.trans (HS317.out.mono (by omega)))
  clear HB299
  clear HS317
  go_wp2
  go_ret
  exact ⟨rfl, HB328.out⟩

set_option maxRecDepth 100000 in
theorem lifted (os : Os) (started : os.Started) (H : Type) (enc : TypeId × Value → H) :
    ReturnsInHanded {} Try.checked os 8 .any (Rows.fnExactMarkedScaleSpec.pre6 enc Try.prog Try.f8 Rows.fnExactMarkedScaleRow.domain false) (Rows.fnExactMarkedScaleSpec.post enc Try.prog Try.f8 false true false false) := by
  refine returnsInHanded_of_change (C := Try.checked) own started (by kernel_rfl) Try.func8
    (ChangeSpec.witness6 (enc := enc) (C := Try.checked) false ⟨#[], #[.agg #[.slice none 0 0, .slice none 0 0], .int .i64 0], []⟩ 8 (by kernel_rfl) (by kernel_rfl) (by kernel_rfl) (by kernel_rfl)) ?_
  intro W base args ds gs before hval0 hW hcnd _
  have hval : ∀ (j : Nat) t v, Try.f8.params[j]? = some t → args[j]? = some v → Value.okWide Try.prog W .any base t v := hval0
  have hW' := hW
  obtain ⟨p, q, hA0, hV, rfl, hfz, hnd⟩ := hW
  have hA : DataW.TrodAll enc Try.prog W 0 (fun _ => true) true Try.f8.params.toList args.toList ds p := hA0
  rw [Try.params8] at hA hval
  obtain ⟨v0, vs0, dd0, ds0, p0, q0, hargs, rfl, rfl, h0, r0⟩ := trodAll_cons hA
  obtain ⟨v1, vs1, dd1, ds1, p1, q1, rfl, rfl, rfl, h1, r1⟩ := trodAll_cons r0
  obtain ⟨rfl, rfl, rfl⟩ := trodAll_nil r1
  obtain rfl : args = #[v0, v1] := by cases args; simp_all
  obtain ⟨rfl, rfl⟩ := trodVars_none hV
  obtain ⟨u0_aX, u1_aX, y0_aX, y1_aX, fz_aX, rfl, rfl, rfl, g0_aX, g1_aX⟩ := Go.Joins.open_agg2 Try.underlying33 (by kernel_rfl) (by kernel_rfl) (hval 0 33 v0 rfl rfl) h0
  obtain ⟨A0_aX, n0_aX, c0_aX, d0_aX, rfl, h0_aX⟩ := field_IntS Try.underlying22 Try.underlying3 (by kernel_rfl) g0_aX
  obtain ⟨A1_aX, n1_aX, c1_aX, d1_aX, rfl, h1_aX⟩ := field_IntS Try.underlying22 Try.underlying3 (by kernel_rfl) g1_aX
  obtain ⟨aBy, rfl, rfl, rfl, w_aBy⟩ := open_int Try.underlying3 (hval 1 3 v1 rfl rfl) h1
  refine (walk A0_aX n0_aX c0_aX A1_aX n1_aX c1_aX d0_aX d1_aX aBy W h0_aX h1_aX w_aBy).mono fun e W' ⟨he, hb⟩ => ?_
  subst he
  exact ⟨_, rfl, post_law rfl rfl Try.underlying4 (by kernel_rfl) (by kernel_rfl) hW' rfl hb⟩

theorem closed : joinedFacts Try.prog 8 Try.f8 Rows.fnExactMarkedScaleSpec Rows.fnExactMarkedScaleRow = true := joined_of (by kernel_rfl)
theorem over : Rows.fnExactMarkedScaleRow.holds Try.pinned (OpenSpec.ofChange Rows.fnExactMarkedScaleSpec) :=
  OpenClaim.holds_of_wide 8 Try.f8 rfl rfl rfl rfl rfl rfl rfl ⟨rfl, rfl, rfl, rfl, rfl⟩ rfl rfl rfl rfl rfl (by kernel_rfl) Try.func8 closed
    (of_decide_eq_true (by kernel_rfl)) (by unfold Func.isWrapper; first | (rw [if_pos (by decide +kernel)]; kernel_rfl) | (rw [if_neg (by decide +kernel)]; exact ⟨rfl, rfl⟩))
    (fun os started H enc _ => lifted os started H enc)
/-- the statement -/
theorem proved : Rows.FnExactMarkedScaleSaid :=
  over
end Go.Proofs.Ythfkjaofgpgoeaa.fnExactMarkedScale
