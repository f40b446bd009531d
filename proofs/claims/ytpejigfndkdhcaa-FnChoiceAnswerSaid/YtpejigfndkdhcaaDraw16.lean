/- What P63 draws. Made by tools/plain/d10.py. -/
import Derived.Test.YtpejigfndkdhcaaDraw15
import Derived.Deep.RegionHeld3
import Derived.StillTailTactics
namespace Go.Proofs.Ytpejigfndkdhcaa
open Go.RowKit
set_option maxRecDepth 100000

theorem resD3 {fn : Func} {t u v : Tmp} {tmps : Array Value} {w : World} {g : Nat} {a b p q : Value} (h : fn.results = #[.cell t 52, .tmp u, .tmp v]) (ht : tmps.getD t undef = .pointer (some ⟨g, 0, none⟩)) (hu : tmps.getD u undef = p) (hv : tmps.getD v undef = q) (hb : Bx w g #[a, b] 52) :
    (results fn tmps).run Try.prog w = .ok (.tuple #[.agg #[a, b], p, q]) w := by
  have hr : w.rangeAt g 0 [a, b] := fun j v hv => by
    rw [Nat.zero_add, cell_of_row w g j _ _ (0, 0) hb]; simpa using hv
  have := run_loadVar_mid (P := Try.prog) w g 0 52 [a, b] _ hr Try.underlying52 rfl infoD
  have ht2 : tmps[t]?.getD undef = .pointer (some ⟨g, 0, none⟩) := by rw [← ht]; simp
  subst hu
  subst hv
  simp [results, h, ht2, this, asAddr]
theorem rdr_d {w : World} {g hi p : Nat} {A : Option Addr} {n c : Nat} {bs : List Int} (h : Rdr w g hi p A n c bs) : Rdr w.drew g hi p A n c bs := h.drewN 1
set_option maxHeartbeats 8000000 in
theorem d_l92Answer (g hi p : Nat) (A : Option Addr) (n c : Nat) (bs : List Int) (w : World) (h : Rdr w g hi p A n c bs) (hp : p < 700000) :
    Calls Try.prog 82 #[.pointer (some ⟨g, 0, none⟩)] w fun e w' => ∃ Am nm cm pl d va a t q, e = .returned (.tuple #[.agg #[.slice Am nm cm, .int .i64 pl], va, .int .i64 t]) ∧ OwIntS w' w.heap.size w'.heap.size (.slice Am nm cm) d ∧ OwIntS w' w.heap.size w'.heap.size va a ∧ (-1 ≤ t ∧ t ≤ 12) ∧ q ≤ p + 3000 ∧ Rdr w' g hi q A n c bs ∧ Kept g (g + 1) w w' := by
  have hgw : g < w.heap.size := h.lt
  have hig : hi ≤ g := h.low
  have HR := Lib.hid h
  have HK := Lib.hid (Kept.refl g (g + 1) w)
  clear h
  go_enter Try.func82, Try.ntmps82
  go_wp2_with fail
  obtain ⟨w1, hW1⟩ : ∃ W, Hid (w.alloc (.cells #[.slice none 0 0, .int .i64 0] 52) = W) := ⟨_, Lib.hid rfl⟩
  try rw [hW1.out]
  have z1 : w.heap.size < w1.heap.size := by rw [← hW1.out, World.size_alloc]; omega
  have ha1 : Below w.heap.size w w1 := by rw [← hW1.out]; exact (Below.refl _ _).alloc (Nat.le_refl _) _
  have HX_r : Hid (Bx w1 w.heap.size #[.slice none 0 0, .int .i64 0] 52) := Lib.hid (by rw [← hW1.out]; exact Bx.new _ _ _)
  have hr_ := HR.out.alloc (.cells #[.slice none 0 0, .int .i64 0] 52)
  have hk_ := HK.out.trans (kept_alloc g (g + 1) w (.cells #[.slice none 0 0, .int .i64 0] 52))
  rw [hW1.out] at hr_ hk_
  replace HR := Lib.hid hr_
  replace HK := Lib.hid hk_
  clear ha1 hW1 hr_ hk_
  refine (d_l92Deal _ _ _ _ _ _ _ _ HR.out (by omega)).mono ?_
  rintro e w2 ⟨Am, nm, cm, pl, d, qd, rfl, h_d, ⟨nm1, nm10⟩, ⟨pl0, pl1⟩, hqd, h2, k2⟩
  have z2 : w1.heap.size ≤ w2.heap.size := k2.size
  replace HX_r := Lib.hid (HX_r.out.kept k2 (.inr (by omega)))
  replace HR := Lib.hid h2
  replace HK := Lib.hid (HK.out.trans k2)
  have HO_d := Lib.hid h_d
  clear h2 k2 h_d
  have fc3 : (w2.alloc (.cells #[.slice Am nm cm, .int .i64 pl] 52)).cell? ⟨w.heap.size, 0, none⟩ = some (.slice none 0 0) := (HX_r.out.alloc _).cell 0
  have fc4 : (w2.alloc (.cells #[.slice Am nm cm, .int .i64 pl] 52)).cell? ⟨w.heap.size, 1, none⟩ = some (.int .i64 0) := (HX_r.out.alloc _).cell 1
  go_wp2_with fail
  clear fc3 fc4
  obtain ⟨w5, hW5⟩ : ∃ W, Hid (w2.alloc (.cells #[.slice Am nm cm, .int .i64 pl] 52) = W) := ⟨_, Lib.hid rfl⟩
  try rw [hW5.out]
  have z5 : w2.heap.size < w5.heap.size := by rw [← hW5.out, World.size_alloc]; omega
  have ha5 : Below w2.heap.size w2 w5 := by rw [← hW5.out]; exact (Below.refl _ _).alloc (Nat.le_refl _) _
  replace HO_d := Lib.hid (HO_d.out.below ha5 (by omega))
  replace HX_r := Lib.hid (HX_r.out.below ha5 HX_r.out.lt)
  have HX_v : Hid (Bx w5 w2.heap.size #[.slice Am nm cm, .int .i64 pl] 52) := Lib.hid (by rw [← hW5.out]; exact Bx.new _ _ _)
  have hr_ := HR.out.alloc (.cells #[.slice Am nm cm, .int .i64 pl] 52)
  have hk_ := HK.out.trans (kept_alloc g (g + 1) w2 (.cells #[.slice Am nm cm, .int .i64 pl] 52))
  rw [hW5.out] at hr_ hk_
  replace HR := Lib.hid hr_
  replace HK := Lib.hid hk_
  clear ha5 hW5 hr_ hk_
  refine (d_pick _ _ _ _ _ _ _ _ _ HR.out (by omega) (by omega) (by omega)).mono ?_
  rintro e w6 ⟨s, rfl, sl, sh, h2, k2⟩
  have z6 : w5.heap.size ≤ w6.heap.size := k2.size
  replace HO_d := Lib.hid (HO_d.out.kept k2 (by omega) (.inl (by omega)))
  replace HX_r := Lib.hid (HX_r.out.kept k2 (.inr (by omega)))
  replace HX_v := Lib.hid (HX_v.out.kept k2 (.inr (by omega)))
  replace HR := Lib.hid h2
  replace HK := Lib.hid (HK.out.trans k2)
  clear h2 k2
  by_cases s0 : s = 0
  · have b0 : (s == 0) = true := by simp [s0]
    clear s0
    have hbd : Below w6.heap.size w6 w6.drew := below_drewN (Below.refl _ _) 1
    have hod := HO_d.out.below hbd (by omega)
    have hxr := HX_r.out.below hbd HX_r.out.lt
    have hxv := HX_v.out.below hbd HX_v.out.lt
    have hkk := HK.out.drew
    have hrr := rdr_d HR.out
    have zd : w6.drew.heap.size = w6.heap.size := rfl
    have v0 : w6.cell? ⟨w2.heap.size, 0, none⟩ = some (.slice Am nm cm) := hxv.cell 0
    have v1 : w6.cell? ⟨w2.heap.size, 1, none⟩ = some (.int .i64 pl) := hxv.cell 1
    have r0 : w6.cell? ⟨w.heap.size, 0, none⟩ = some (.slice none 0 0) := hxr.cell 0
    have r1 : w6.cell? ⟨w.heap.size, 1, none⟩ = some (.int .i64 0) := hxr.cell 1
    have q0 : w6.frozen? ⟨w.heap.size, 0, none⟩ = false := hxr.free 0
    have q1 : w6.frozen? ⟨w.heap.size, 1, none⟩ = false := hxr.free 1
    have stq0 : True := trivial
    have iw : IntKind.i64.wrap ((nm : Int) + 1) = (nm : Int) + 1 := IntWalk.i64_in _ (by omega)
    have iw2 : IntKind.i64.wrap ((nm : Int) + 1 + 1) = (nm : Int) + 1 + 1 := IntWalk.i64_in _ (by omega)
    go_wp2
    go_region_held3 (fun w' => w'.cell? ⟨w2.heap.size, 0, none⟩ = some (.slice Am nm cm) ∧ w'.cell? ⟨w2.heap.size, 1, none⟩ = some (.int .i64 pl))
      (first | exact ⟨v0, v1⟩ | (simp [*, World.cell?_setCell_other]))
      (first
       | (have stq1 := stq0
          clear stq0
          go_at_call 70
          refine (d_l91NumsL _ _ _ _ _ _ _ _ _ hrr (by omega) (by omega) (by omega)).mono ?_
          rintro e u1 ⟨va, a, qa, rfl, h_a, hal, hqa, h2, k2⟩
          have hoa := h_a
          have zu1 : w6.heap.size ≤ u1.heap.size := k2.size
          replace hod := hod.kept k2 (by omega) (.inl (by omega))
          replace hxr := hxr.kept k2 (.inr (by omega))
          replace hxv := hxv.kept k2 (.inr (by omega))
          replace v0 : u1.cell? ⟨w2.heap.size, 0, none⟩ = some (.slice Am nm cm) := hxv.cell 0
          replace v1 : u1.cell? ⟨w2.heap.size, 1, none⟩ = some (.int .i64 pl) := hxv.cell 1
          replace r0 : u1.cell? ⟨w.heap.size, 0, none⟩ = some (.slice none 0 0) := hxr.cell 0
          replace r1 : u1.cell? ⟨w.heap.size, 1, none⟩ = some (.int .i64 0) := hxr.cell 1
          replace q0 : u1.frozen? ⟨w.heap.size, 0, none⟩ = false := hxr.free 0
          replace q1 : u1.frozen? ⟨w.heap.size, 1, none⟩ = false := hxr.free 1
          replace hkk := hkk.trans k2
          replace hrr := h2
          clear k2 h2)
       | (have stq2 := stq1
          clear stq1
          go_at_call 69
          refine (d_pick _ _ _ _ _ _ _ _ _ hrr (by omega) (by omega) (by omega)).mono ?_
          rintro e u2 ⟨z, rfl, z0, z1, h2, k2⟩
          replace hoa := hoa.kept k2 (by omega) (.inl (by omega))
          have zu2 : u1.heap.size ≤ u2.heap.size := k2.size
          replace hod := hod.kept k2 (by omega) (.inl (by omega))
          replace hxr := hxr.kept k2 (.inr (by omega))
          replace hxv := hxv.kept k2 (.inr (by omega))
          replace v0 : u2.cell? ⟨w2.heap.size, 0, none⟩ = some (.slice Am nm cm) := hxv.cell 0
          replace v1 : u2.cell? ⟨w2.heap.size, 1, none⟩ = some (.int .i64 pl) := hxv.cell 1
          replace r0 : u2.cell? ⟨w.heap.size, 0, none⟩ = some (.slice none 0 0) := hxr.cell 0
          replace r1 : u2.cell? ⟨w.heap.size, 1, none⟩ = some (.int .i64 0) := hxr.cell 1
          replace q0 : u2.frozen? ⟨w.heap.size, 0, none⟩ = false := hxr.free 0
          replace q1 : u2.frozen? ⟨w.heap.size, 1, none⟩ = false := hxr.free 1
          replace hkk := hkk.trans k2
          replace hrr := h2
          clear k2 h2)
       | (have stq3 := stq2
          clear stq2
          go_at_call 69
          refine (d_pick _ _ _ _ _ _ _ _ _ hrr (by omega) (by omega) (by omega)).mono ?_
          rintro e u3 ⟨x, rfl, x0, x1, h2, k2⟩
          replace hoa := hoa.kept k2 (by omega) (.inl (by omega))
          have zu3 : u2.heap.size ≤ u3.heap.size := k2.size
          replace hod := hod.kept k2 (by omega) (.inl (by omega))
          replace hxr := hxr.kept k2 (.inr (by omega))
          replace hxv := hxv.kept k2 (.inr (by omega))
          replace v0 : u3.cell? ⟨w2.heap.size, 0, none⟩ = some (.slice Am nm cm) := hxv.cell 0
          replace v1 : u3.cell? ⟨w2.heap.size, 1, none⟩ = some (.int .i64 pl) := hxv.cell 1
          replace r0 : u3.cell? ⟨w.heap.size, 0, none⟩ = some (.slice none 0 0) := hxr.cell 0
          replace r1 : u3.cell? ⟨w.heap.size, 1, none⟩ = some (.int .i64 0) := hxr.cell 1
          replace q0 : u3.frozen? ⟨w.heap.size, 0, none⟩ = false := hxr.free 0
          replace q1 : u3.frozen? ⟨w.heap.size, 1, none⟩ = false := hxr.free 1
          replace hkk := hkk.trans k2
          replace hrr := h2
          clear k2 h2)
       | (have stq4 := stq3
          clear stq3
          go_at_call 69
          refine (d_pick _ _ _ _ _ _ _ _ _ hrr (by omega) (by omega) (by omega)).mono ?_
          rintro e u4 ⟨y, rfl, y0, y1, h2, k2⟩
          replace hoa := hoa.kept k2 (by omega) (.inl (by omega))
          have zu4 : u3.heap.size ≤ u4.heap.size := k2.size
          replace hod := hod.kept k2 (by omega) (.inl (by omega))
          replace hxr := hxr.kept k2 (.inr (by omega))
          replace hxv := hxv.kept k2 (.inr (by omega))
          replace v0 : u4.cell? ⟨w2.heap.size, 0, none⟩ = some (.slice Am nm cm) := hxv.cell 0
          replace v1 : u4.cell? ⟨w2.heap.size, 1, none⟩ = some (.int .i64 pl) := hxv.cell 1
          replace r0 : u4.cell? ⟨w.heap.size, 0, none⟩ = some (.slice none 0 0) := hxr.cell 0
          replace r1 : u4.cell? ⟨w.heap.size, 1, none⟩ = some (.int .i64 0) := hxr.cell 1
          replace q0 : u4.frozen? ⟨w.heap.size, 0, none⟩ = false := hxr.free 0
          replace q1 : u4.frozen? ⟨w.heap.size, 1, none⟩ = false := hxr.free 1
          replace hkk := hkk.trans k2
          replace hrr := h2
          clear k2 h2
          have xy : 0 ≤ x * y ∧ x * y ≤ 1 := by rcases (show x = 0 ∨ x = 1 by omega) with rfl | rfl <;> omega
          have ixy : IntKind.i64.wrap (x * y) = x * y := IntWalk.i64_in _ (by omega)
          have imx : IntKind.i64.wrap (z - x * y) = z - x * y := IntWalk.i64_in _ (by omega)))
    all_goals
      go_wp2
      have hkR : Kept (w.heap.size) (w.heap.size + 1) u4 ((u4.setCell ⟨w.heap.size, 0, none⟩ (.slice Am nm cm)).setCell ⟨w.heap.size, 1, none⟩ (.int .i64 pl)) := ((Kept.refl _ _ _).setCell (p := ⟨w.heap.size, 0, none⟩) (Nat.le_refl _) (Nat.lt_succ_self _) _).setCell (p := ⟨w.heap.size, 1, none⟩) (Nat.le_refl _) (Nat.lt_succ_self _) _
      have hxR := (hxr.set 0 (.slice Am nm cm)).set 1 (.int .i64 pl)
      have hrR := hrr.move (w' := ((u4.setCell ⟨w.heap.size, 0, none⟩ (.slice Am nm cm)).setCell ⟨w.heap.size, 1, none⟩ (.int .i64 pl))) (hkR.block g hrr.lt (by omega)) ((hkR.to_below (by omega)).mono (by omega))
      have hqR := kept_up hkk hkR (Nat.le_refl _)
      have zR : ((u4.setCell ⟨w.heap.size, 0, none⟩ (.slice Am nm cm)).setCell ⟨w.heap.size, 1, none⟩ (.int .i64 pl)).heap.size = u4.heap.size := by rw [World.size_setCell, World.size_setCell]
      exact bodyPost_ret (v := .tuple #[.agg #[.slice Am nm cm, .int .i64 pl], va, .int .i64 (z - x * y)]) (resD3 rfl rfl rfl rfl hxR) rfl ⟨_, _, _, _, d, _, a, _, _, rfl, (hod.kept hkR (by omega) (by omega)).widen (by omega) (by omega), (hoa.kept hkR (by omega) (by omega)).widen (by omega) (by omega), ⟨by omega, by omega⟩, by omega, hrR, hqR⟩
  have b0 : (s == 0) = false := by rw [beq_eq_false_iff_ne]; exact s0
  clear s0
  have hbd : Below w6.heap.size w6 w6.drew := below_drewN (Below.refl _ _) 1
  have hod := HO_d.out.below hbd (by omega)
  have hxr := HX_r.out.below hbd HX_r.out.lt
  have hxv := HX_v.out.below hbd HX_v.out.lt
  have hkk := HK.out.drew
  have hrr := rdr_d HR.out
  have zd : w6.drew.heap.size = w6.heap.size := rfl
  have v0 : w6.cell? ⟨w2.heap.size, 0, none⟩ = some (.slice Am nm cm) := hxv.cell 0
  have v1 : w6.cell? ⟨w2.heap.size, 1, none⟩ = some (.int .i64 pl) := hxv.cell 1
  have r0 : w6.cell? ⟨w.heap.size, 0, none⟩ = some (.slice none 0 0) := hxr.cell 0
  have r1 : w6.cell? ⟨w.heap.size, 1, none⟩ = some (.int .i64 0) := hxr.cell 1
  have q0 : w6.frozen? ⟨w.heap.size, 0, none⟩ = false := hxr.free 0
  have q1 : w6.frozen? ⟨w.heap.size, 1, none⟩ = false := hxr.free 1
  have stq0 : True := trivial
  have iw : IntKind.i64.wrap ((nm : Int) + 1) = (nm : Int) + 1 := IntWalk.i64_in _ (by omega)
  go_wp2
  go_region_held3 (fun w' => w'.cell? ⟨w2.heap.size, 0, none⟩ = some (.slice Am nm cm) ∧ w'.cell? ⟨w2.heap.size, 1, none⟩ = some (.int .i64 pl))
    (first | exact ⟨v0, v1⟩ | (simp [*, World.cell?_setCell_other]))
    (first
     | (have stq1 := stq0
        clear stq0
        go_at_call 70
        refine (d_l91NumsL _ _ _ _ _ _ _ _ _ hrr (by omega) (by omega) (by omega)).mono ?_
        rintro e u1 ⟨va, a, qa, rfl, h_a, hal, hqa, h2, k2⟩
        have hoa := h_a
        have zu1 : w6.heap.size ≤ u1.heap.size := k2.size
        replace hod := hod.kept k2 (by omega) (.inl (by omega))
        replace hxr := hxr.kept k2 (.inr (by omega))
        replace hxv := hxv.kept k2 (.inr (by omega))
        replace v0 : u1.cell? ⟨w2.heap.size, 0, none⟩ = some (.slice Am nm cm) := hxv.cell 0
        replace v1 : u1.cell? ⟨w2.heap.size, 1, none⟩ = some (.int .i64 pl) := hxv.cell 1
        replace r0 : u1.cell? ⟨w.heap.size, 0, none⟩ = some (.slice none 0 0) := hxr.cell 0
        replace r1 : u1.cell? ⟨w.heap.size, 1, none⟩ = some (.int .i64 0) := hxr.cell 1
        replace q0 : u1.frozen? ⟨w.heap.size, 0, none⟩ = false := hxr.free 0
        replace q1 : u1.frozen? ⟨w.heap.size, 1, none⟩ = false := hxr.free 1
        replace hkk := hkk.trans k2
        replace hrr := h2
        clear k2 h2)
     | (have stq2 := stq1
        clear stq1
        go_at_call 69
        refine (d_pick _ _ _ _ _ _ _ _ _ hrr (by omega) (by omega) (by omega)).mono ?_
        rintro e u2 ⟨z, rfl, z0, z1, h2, k2⟩
        replace hoa := hoa.kept k2 (by omega) (.inl (by omega))
        have zu2 : u1.heap.size ≤ u2.heap.size := k2.size
        replace hod := hod.kept k2 (by omega) (.inl (by omega))
        replace hxr := hxr.kept k2 (.inr (by omega))
        replace hxv := hxv.kept k2 (.inr (by omega))
        replace v0 : u2.cell? ⟨w2.heap.size, 0, none⟩ = some (.slice Am nm cm) := hxv.cell 0
        replace v1 : u2.cell? ⟨w2.heap.size, 1, none⟩ = some (.int .i64 pl) := hxv.cell 1
        replace r0 : u2.cell? ⟨w.heap.size, 0, none⟩ = some (.slice none 0 0) := hxr.cell 0
        replace r1 : u2.cell? ⟨w.heap.size, 1, none⟩ = some (.int .i64 0) := hxr.cell 1
        replace q0 : u2.frozen? ⟨w.heap.size, 0, none⟩ = false := hxr.free 0
        replace q1 : u2.frozen? ⟨w.heap.size, 1, none⟩ = false := hxr.free 1
        replace hkk := hkk.trans k2
        replace hrr := h2
        clear k2 h2)
     | (have stq3 := stq2
        clear stq2
        go_at_call 69
        refine (d_pick _ _ _ _ _ _ _ _ _ hrr (by omega) (by omega) (by omega)).mono ?_
        rintro e u3 ⟨x, rfl, x0, x1, h2, k2⟩
        replace hoa := hoa.kept k2 (by omega) (.inl (by omega))
        have zu3 : u2.heap.size ≤ u3.heap.size := k2.size
        replace hod := hod.kept k2 (by omega) (.inl (by omega))
        replace hxr := hxr.kept k2 (.inr (by omega))
        replace hxv := hxv.kept k2 (.inr (by omega))
        replace v0 : u3.cell? ⟨w2.heap.size, 0, none⟩ = some (.slice Am nm cm) := hxv.cell 0
        replace v1 : u3.cell? ⟨w2.heap.size, 1, none⟩ = some (.int .i64 pl) := hxv.cell 1
        replace r0 : u3.cell? ⟨w.heap.size, 0, none⟩ = some (.slice none 0 0) := hxr.cell 0
        replace r1 : u3.cell? ⟨w.heap.size, 1, none⟩ = some (.int .i64 0) := hxr.cell 1
        replace q0 : u3.frozen? ⟨w.heap.size, 0, none⟩ = false := hxr.free 0
        replace q1 : u3.frozen? ⟨w.heap.size, 1, none⟩ = false := hxr.free 1
        replace hkk := hkk.trans k2
        replace hrr := h2
        clear k2 h2)
     | (have stq4 := stq3
        clear stq3
        go_at_call 69
        refine (d_pick _ _ _ _ _ _ _ _ _ hrr (by omega) (by omega) (by omega)).mono ?_
        rintro e u4 ⟨y, rfl, y0, y1, h2, k2⟩
        replace hoa := hoa.kept k2 (by omega) (.inl (by omega))
        have zu4 : u3.heap.size ≤ u4.heap.size := k2.size
        replace hod := hod.kept k2 (by omega) (.inl (by omega))
        replace hxr := hxr.kept k2 (.inr (by omega))
        replace hxv := hxv.kept k2 (.inr (by omega))
        replace v0 : u4.cell? ⟨w2.heap.size, 0, none⟩ = some (.slice Am nm cm) := hxv.cell 0
        replace v1 : u4.cell? ⟨w2.heap.size, 1, none⟩ = some (.int .i64 pl) := hxv.cell 1
        replace r0 : u4.cell? ⟨w.heap.size, 0, none⟩ = some (.slice none 0 0) := hxr.cell 0
        replace r1 : u4.cell? ⟨w.heap.size, 1, none⟩ = some (.int .i64 0) := hxr.cell 1
        replace q0 : u4.frozen? ⟨w.heap.size, 0, none⟩ = false := hxr.free 0
        replace q1 : u4.frozen? ⟨w.heap.size, 1, none⟩ = false := hxr.free 1
        replace hkk := hkk.trans k2
        replace hrr := h2
        clear k2 h2
        have xy : 0 ≤ x * y ∧ x * y ≤ 1 := by rcases (show x = 0 ∨ x = 1 by omega) with rfl | rfl <;> omega
        have ixy : IntKind.i64.wrap (x * y) = x * y := IntWalk.i64_in _ (by omega)
        have imx : IntKind.i64.wrap (z - x * y) = z - x * y := IntWalk.i64_in _ (by omega)))
  all_goals
    go_wp2
    have hkR : Kept (w.heap.size) (w.heap.size + 1) u4 ((u4.setCell ⟨w.heap.size, 0, none⟩ (.slice Am nm cm)).setCell ⟨w.heap.size, 1, none⟩ (.int .i64 pl)) := ((Kept.refl _ _ _).setCell (p := ⟨w.heap.size, 0, none⟩) (Nat.le_refl _) (Nat.lt_succ_self _) _).setCell (p := ⟨w.heap.size, 1, none⟩) (Nat.le_refl _) (Nat.lt_succ_self _) _
    have hxR := (hxr.set 0 (.slice Am nm cm)).set 1 (.int .i64 pl)
    have hrR := hrr.move (w' := ((u4.setCell ⟨w.heap.size, 0, none⟩ (.slice Am nm cm)).setCell ⟨w.heap.size, 1, none⟩ (.int .i64 pl))) (hkR.block g hrr.lt (by omega)) ((hkR.to_below (by omega)).mono (by omega))
    have hqR := kept_up hkk hkR (Nat.le_refl _)
    have zR : ((u4.setCell ⟨w.heap.size, 0, none⟩ (.slice Am nm cm)).setCell ⟨w.heap.size, 1, none⟩ (.int .i64 pl)).heap.size = u4.heap.size := by rw [World.size_setCell, World.size_setCell]
    exact bodyPost_ret (v := .tuple #[.agg #[.slice Am nm cm, .int .i64 pl], va, .int .i64 (z - x * y)]) (resD3 rfl rfl rfl rfl hxR) rfl ⟨_, _, _, _, d, _, a, _, _, rfl, (hod.kept hkR (by omega) (by omega)).widen (by omega) (by omega), (hoa.kept hkR (by omega) (by omega)).widen (by omega) (by omega), ⟨by omega, by omega⟩, by omega, hrR, hqR⟩

set_option maxHeartbeats 2000000 in
theorem d_DrawChoiceAnswer (A : Option Addr) (n c : Nat) (bs : List Int) (w : World) (h : Rd w w.heap.size 1 A n (cU bs)) (hb : Byt bs) (hn : n ≤ 1048576) (hc : n ≤ c) :
    Calls Try.prog 34 #[.slice A n c] w fun e w' => ∃ Am nm cm pl d va a t, e = .returned (.tuple #[.agg #[.slice Am nm cm, .int .i64 pl], va, .int .i64 t]) ∧ OwIntS w' w.heap.size w'.heap.size (.slice Am nm cm) d ∧ OwIntS w' w.heap.size w'.heap.size va a ∧ (-1 ≤ t ∧ t ≤ 12) ∧ Below w.heap.size w w' := by
  obtain ⟨w0, hw0⟩ : ∃ w0, Hid (w.alloc (.cells #[.slice none 0 0, .int .i64 0] 52) = w0) := ⟨_, Lib.hid rfl⟩
  have B0 : Hid (Below w.heap.size w w0) := Lib.hid (by rw [← hw0.out]; exact (Below.refl _ _).alloc (Nat.le_refl _) _)
  have hz0 : w.heap.size < w0.heap.size := by rw [← hw0.out, World.size_alloc]; omega
  have H : Hid (Rd w0 w0.heap.size 1 A n (cU bs)) := Lib.hid ((h.below B0.out).more (by omega))
  have HX : Hid (Bx w0 w.heap.size #[.slice none 0 0, .int .i64 0] 52) := Lib.hid (by rw [← hw0.out]; exact Bx.new _ _ _)
  clear h
  go_enter Try.func34, Try.ntmps34
  go_wp2_with fail
  rw [hw0.out]
  refine (d_l6Open _ _ _ _ _ H.out hb hn hc).mono ?_
  rintro e w1 ⟨rfl, ⟨A', n', c', bs', h1⟩, hb1⟩
  have H1 := Lib.hid h1
  have z1 := hb1.size
  have HX1 := Lib.hid (HX.out.below hb1 (by omega))
  have B1 := Lib.hid (B0.out.trans (hb1.mono (by omega)))
  clear h1 hb1
  have f0 : w1.cell? ⟨w.heap.size, 0, none⟩ = some (.slice none 0 0) := HX1.out.cell 0
  have f1 : w1.cell? ⟨w.heap.size, 1, none⟩ = some (.int .i64 0) := HX1.out.cell 1
  go_wp2_with fail
  clear f0 f1
  refine (d_l92Answer _ _ _ _ _ _ _ _ H1.out (by omega)).mono ?_
  rintro e w2 ⟨Am, nm, cm, pl, d, va, a, t, q, rfl, hod, hoa, ht, hq, h2, k2⟩
  have z2 := k2.size
  have HX2 := Lib.hid (HX1.out.kept k2 (.inl (by omega)))
  have B2 : Hid (Below w.heap.size w w2) := Lib.hid (B1.out.trans ((k2.to_below (by omega)).mono (by omega)))
  have HOD := Lib.hid hod
  have HOA := Lib.hid hoa
  clear hod hoa h2 k2
  have r0 : w2.cell? ⟨w.heap.size, 0, none⟩ = some (.slice none 0 0) := HX2.out.cell 0
  have r1 : w2.cell? ⟨w.heap.size, 1, none⟩ = some (.int .i64 0) := HX2.out.cell 1
  have q0 : w2.frozen? ⟨w.heap.size, 0, none⟩ = false := HX2.out.free 0
  have q1 : w2.frozen? ⟨w.heap.size, 1, none⟩ = false := HX2.out.free 1
  go_wp2
  have hkR : Kept w.heap.size (w.heap.size + 1) w2 ((w2.setCell ⟨w.heap.size, 0, none⟩ (.slice Am nm cm)).setCell ⟨w.heap.size, 1, none⟩ (.int .i64 pl)) := ((Kept.refl _ _ _).setCell (p := ⟨w.heap.size, 0, none⟩) (Nat.le_refl _) (Nat.lt_succ_self _) _).setCell (p := ⟨w.heap.size, 1, none⟩) (Nat.le_refl _) (Nat.lt_succ_self _) _
  have hxR := (HX2.out.set 0 (.slice Am nm cm)).set 1 (.int .i64 pl)
  have zR : ((w2.setCell ⟨w.heap.size, 0, none⟩ (.slice Am nm cm)).setCell ⟨w.heap.size, 1, none⟩ (.int .i64 pl)).heap.size = w2.heap.size := by rw [World.size_setCell, World.size_setCell]
  exact bodyPost_ret (v := .tuple #[.agg #[.slice Am nm cm, .int .i64 pl], va, .int .i64 t]) (resD3 rfl rfl rfl rfl hxR) rfl ⟨_, _, _, _, d, _, a, _, rfl, (HOD.out.kept hkR (by omega) (by omega)).widen (by omega) (by omega), (HOA.out.kept hkR (by omega) (by omega)).widen (by omega) (by omega), ht, B2.out.trans ((hkR.to_below (by omega)).mono (by omega))⟩
end Go.Proofs.Ytpejigfndkdhcaa
