/- Chapter 14: proofs of knowledge: what both sides build on. Made by tools/gen14/a.py. -/
import Derived.Test.YtaiilopfdjbceaaEl
import Derived.Test.YtaiilopfdjbceaaWalk1b
import Derived.Test.YtaiilopfdjbceaaBx0
import Derived.Test.YtaiilopfdjbceaaMath20
import Derived.Deep.MidRow
import Derived.StillTailTactics
import Derived.BigQuiet
import Derived.Deep.QuietTactic
import Derived.Deep.RegionHeld3
namespace Go.Proofs.Ytaiilopfdjbceaa
open Go.RowKit
set_option maxRecDepth 100000

theorem rtib {a b : Int} {c d : Bool} (h1 : a = b) (h2 : c = d) : Ending.returned (.tuple #[.int .i64 a, .bool c]) = .returned (.tuple #[.int .i64 b, .bool d]) := by rw [h1, h2]
theorem same14 {P : Program} {f : FuncId} {args : Array Value} {w : World} {v : Value} (h : Calls P f args w fun e w' => e = .returned v ∧ w = w') : Calls P f args w fun e w'' => e = .returned v ∧ w'' = w :=
  h.mono fun _ _ ⟨he, hm⟩ => ⟨he, hm.symm⟩
theorem nb14 {w w2 : World} (h : Below w.drew.heap.size w.drew w2) : Below w.heap.size w w2 := (Below.drew (Below.refl _ _)).trans h
theorem st14_2 (w : World) (B : Nat) (a b : Value) : Kept B (B + 1) w ((w.setCell ⟨B, 0, none⟩ a).setCell ⟨B, 1, none⟩ b) :=
  ((Kept.refl _ _ _).setCell (p := ⟨B, 0, none⟩) (Nat.le_refl _) (Nat.lt_succ_self _) _).setCell (p := ⟨B, 1, none⟩) (Nat.le_refl _) (Nat.lt_succ_self _) _
theorem st14_3 (w : World) (B : Nat) (a b c : Value) : Kept B (B + 1) w (((w.setCell ⟨B, 0, none⟩ a).setCell ⟨B, 1, none⟩ b).setCell ⟨B, 2, none⟩ c) :=
  (st14_2 w B a b).setCell (p := ⟨B, 2, none⟩) (Nat.le_refl _) (Nat.lt_succ_self _) _
theorem st14_4 (w : World) (B : Nat) (a b c d : Value) : Kept B (B + 1) w ((((w.setCell ⟨B, 0, none⟩ a).setCell ⟨B, 1, none⟩ b).setCell ⟨B, 2, none⟩ c).setCell ⟨B, 3, none⟩ d) :=
  (st14_3 w B a b c).setCell (p := ⟨B, 3, none⟩) (Nat.le_refl _) (Nat.lt_succ_self _) _
theorem Bx.rdI {w : World} {b e : Nat} {cs : Array Value} {zs : List Int} (h : Bx w b cs e) (hz : cs.toList = cI zs) : Rd w w.heap.size 1 (some ⟨b, 0, none⟩) zs.length (cI zs) := by
  refine ⟨by simp [cI_length], fun _ => ⟨_, rfl, h.lt, fun j u hj => ?_⟩⟩
  rw [add_zero_head, h.cell j, ← hj, ← hz, Array.getElem?_toList]
def makeB (s n c : Int) : Bool := numB s && (numB n && numB c)
def makeD (s n c : Int) : Int × Int × Int := if makeB s n c = true then (powI 4 n 227, c, (n + c * s) % 113) else (0, 0, 0)
def feignD (k c r : Int) : Int × Int × Int := if feignB k c r = true then (backI 4 k r c, c, r) else (0, 0, 0)
def nonceV (s c r : Int) : Int := if makeB s c r = true then (r - c * s) % 113 else 0
def tmakeB (a b s n c : Int) : Bool := (elB a && elB b) && makeB s n c
def tmakeD (a b s n c : Int) : Int × Int × Int × Int := if tmakeB a b s n c = true then (powI a n 227, powI b n 227, c, (n + c * s) % 113) else (0, 0, 0, 0)
def tfeignD (a b k l c r : Int) : Int × Int × Int × Int := if twinFB a b k l c r = true then (backI a k r c, backI b l r c, c, r) else (0, 0, 0, 0)
def secB (k x c r y d s : Int) : Bool := goodB k x c r && (goodB k y d s && (decide (x = y) && decide (c ≠ d)))
def secV (k x c r y d s : Int) : Int := if secB k x c r y d s = true then (r - s) % 113 * powI ((c - d) % 113) 111 113 % 113 else 0
theorem inv_bd14 (a : Int) : 0 ≤ powI a 111 113 ∧ powI a 111 113 ≤ 112 := ⟨powI_lo _ _ _, powI_hi _ _ _ (by omega)⟩

theorem inforesPf : (Try.prog.info? 52).map (·.size) = some 3 := by kernel_rfl
theorem resPf1 {fn : Func} {t : Tmp} {tmps : Array Value} {w : World} {g : Nat} {a0 a1 a2 : Value} (h : fn.results = #[.cell t 52]) (ht : tmps.getD t undef = .pointer (some ⟨g, 0, none⟩)) (hb : Bx w g #[a0, a1, a2] 52) :
    (results fn tmps).run Try.prog w = .ok (.agg #[a0, a1, a2]) w := by
  have hr : w.rangeAt g 0 [a0, a1, a2] := fun j v hv => by
    rw [Nat.zero_add, cell_of_row w g j _ _ (0, 0) hb]; simpa using hv
  have := run_loadVar_mid (P := Try.prog) w g 0 52 [a0, a1, a2] _ hr Try.underlying52 rfl inforesPf
  have ht2 : tmps[t]?.getD undef = .pointer (some ⟨g, 0, none⟩) := by rw [← ht]; simp
  simp [results, h, ht2, this, asAddr]
theorem resPf2 {fn : Func} {t u : Tmp} {tmps : Array Value} {w : World} {g : Nat} {a0 a1 a2 x : Value} (h : fn.results = #[.cell t 52, .tmp u]) (ht : tmps.getD t undef = .pointer (some ⟨g, 0, none⟩)) (hu : tmps.getD u undef = x) (hb : Bx w g #[a0, a1, a2] 52) :
    (results fn tmps).run Try.prog w = .ok (.tuple #[.agg #[a0, a1, a2], x]) w := by
  have hr : w.rangeAt g 0 [a0, a1, a2] := fun j v hv => by
    rw [Nat.zero_add, cell_of_row w g j _ _ (0, 0) hb]; simpa using hv
  have := run_loadVar_mid (P := Try.prog) w g 0 52 [a0, a1, a2] _ hr Try.underlying52 rfl inforesPf
  have ht2 : tmps[t]?.getD undef = .pointer (some ⟨g, 0, none⟩) := by rw [← ht]; simp
  subst hu
  simp [results, h, ht2, this, asAddr]
theorem inforesAn : (Try.prog.info? 92).map (·.size) = some 2 := by kernel_rfl
theorem resAn1 {fn : Func} {t : Tmp} {tmps : Array Value} {w : World} {g : Nat} {a0 a1 : Value} (h : fn.results = #[.cell t 92]) (ht : tmps.getD t undef = .pointer (some ⟨g, 0, none⟩)) (hb : Bx w g #[a0, a1] 92) :
    (results fn tmps).run Try.prog w = .ok (.agg #[a0, a1]) w := by
  have hr : w.rangeAt g 0 [a0, a1] := fun j v hv => by
    rw [Nat.zero_add, cell_of_row w g j _ _ (0, 0) hb]; simpa using hv
  have := run_loadVar_mid (P := Try.prog) w g 0 92 [a0, a1] _ hr Try.underlying92 rfl inforesAn
  have ht2 : tmps[t]?.getD undef = .pointer (some ⟨g, 0, none⟩) := by rw [← ht]; simp
  simp [results, h, ht2, this, asAddr]
theorem resAn2 {fn : Func} {t u : Tmp} {tmps : Array Value} {w : World} {g : Nat} {a0 a1 x : Value} (h : fn.results = #[.cell t 92, .tmp u]) (ht : tmps.getD t undef = .pointer (some ⟨g, 0, none⟩)) (hu : tmps.getD u undef = x) (hb : Bx w g #[a0, a1] 92) :
    (results fn tmps).run Try.prog w = .ok (.tuple #[.agg #[a0, a1], x]) w := by
  have hr : w.rangeAt g 0 [a0, a1] := fun j v hv => by
    rw [Nat.zero_add, cell_of_row w g j _ _ (0, 0) hb]; simpa using hv
  have := run_loadVar_mid (P := Try.prog) w g 0 92 [a0, a1] _ hr Try.underlying92 rfl inforesAn
  have ht2 : tmps[t]?.getD undef = .pointer (some ⟨g, 0, none⟩) := by rw [← ht]; simp
  subst hu
  simp [results, h, ht2, this, asAddr]

set_option maxHeartbeats 400000 in
theorem i_number_ok (a : Int) (w : World) :
    Calls Try.prog 94 #[.int .i64 a] w fun e w' => e = .returned (.bool (numB a)) ∧ w = w' := by
  by_cases h1 : 0 ≤ a
  all_goals by_cases h2 : a < 113
  all_goals
    have HN : Hid (numB a = (decide (0 ≤ a) && decide (a < 113))) := Lib.hid (by rw [Bool.eq_iff_iff]; simp [numB]; omega)
    go_enter Try.func94, Try.ntmps94
    go_wp2
    go_ret
    exact ⟨ret_bool (by rw [HN.out]; simp [h1, h2]), rfl⟩

set_option maxHeartbeats 2000000 in
theorem i_an_ok (c r : Int) (w : World) :
    Calls Try.prog 105 #[.agg #[.int .i64 c, .int .i64 r]] w fun e w' => e = .returned (.bool (numB c && numB r)) ∧ Below w.heap.size w w' := by
  obtain ⟨W0, hW0⟩ : ∃ W, Hid ((w.alloc (.cells #[.int .i64 c, .int .i64 r] 92)) = W) := ⟨_, Lib.hid rfl⟩
  have HB : Hid (Below w.heap.size w W0) := Lib.hid (by rw [← hW0.out]; exact (Below.refl _ _).alloc (Nat.le_refl _) _)
  have z_0 : w.heap.size + 1 ≤ W0.heap.size := by rw [← hW0.out]; simp only [World.size_alloc]; omega
  have HX_a : Hid (Bx W0 (w.heap.size) #[.int .i64 c, .int .i64 r] 92) := Lib.hid (by rw [← hW0.out]; have := Bx.new w #[.int .i64 c, .int .i64 r] 92; exact this)
  go_enter Try.func105, Try.ntmps105
  go_wp2_with fail
  rw [hW0.out]
  clear hW0
  refine (i_number_ok _ _).mono ?_
  rintro e w' ⟨rfl, rfl⟩
  cases h1 : numB c
  · have fc1 : W0.cell? ⟨w.heap.size, 0, none⟩ = some (.int .i64 c) := HX_a.out.cell 0
    have fc2 : W0.cell? ⟨w.heap.size, 1, none⟩ = some (.int .i64 r) := HX_a.out.cell 1
    go_wp2
    go_ret
    exact ⟨ret_bool (by rw [h1]; rfl), HB.out⟩
  have fc3 : W0.cell? ⟨w.heap.size, 0, none⟩ = some (.int .i64 c) := HX_a.out.cell 0
  have fc4 : W0.cell? ⟨w.heap.size, 1, none⟩ = some (.int .i64 r) := HX_a.out.cell 1
  go_wp2_with fail
  clear fc3 fc4
  refine (i_number_ok _ _).mono ?_
  rintro e w' ⟨rfl, rfl⟩
  go_wp2
  go_ret
  exact ⟨ret_bool (by rw [h1]; rfl), HB.out⟩

set_option maxHeartbeats 2000000 in
theorem i_an_com (c r b k : Int) (w : World) (c0 : 0 ≤ c) (c1 : c ≤ 112) (r0 : 0 ≤ r) (r1 : r ≤ 112) (b0 : 0 ≤ b) (b1 : b ≤ 226) (k0 : 0 ≤ k) (k1 : k ≤ 226) :
    Calls Try.prog 113 #[.agg #[.int .i64 c, .int .i64 r], .int .i64 b, .int .i64 k] w fun e w' => e = .returned (.int .i64 (backI b k r c)) ∧ Below w.heap.size w w' := by
  obtain ⟨p0, p1⟩ := powI_bd b r
  obtain ⟨v, hv⟩ : ∃ v, Hid (v = (0 - c) % 113) := ⟨_, Lib.hid rfl⟩
  have v0 : 0 ≤ v := by have := hv.out; omega
  have v1 : v ≤ 112 := by have := hv.out; omega
  obtain ⟨q0, q1⟩ := powI_bd k v
  have HS : ∀ W : World, Hid (Calls Try.prog 81 #[.int .i64 0, .int .i64 c] W fun e w' => e = .returned (.int .i64 v) ∧ W = w') := fun W => Lib.hid (by rw [hv.out]; exact i_minus 0 c W (by omega) (by omega) c0 c1)
  have HV : Hid (powI b r 227 * powI k v 227 % 227 = backI b k r c) := Lib.hid (by rw [hv.out]; rfl)
  obtain ⟨W0, hW0⟩ : ∃ W, Hid ((w.alloc (.cells #[.int .i64 c, .int .i64 r] 92)) = W) := ⟨_, Lib.hid rfl⟩
  have HB : Hid (Below w.heap.size w W0) := Lib.hid (by rw [← hW0.out]; exact (Below.refl _ _).alloc (Nat.le_refl _) _)
  have z_0 : w.heap.size + 1 ≤ W0.heap.size := by rw [← hW0.out]; simp only [World.size_alloc]; omega
  have HX_a : Hid (Bx W0 (w.heap.size) #[.int .i64 c, .int .i64 r] 92) := Lib.hid (by rw [← hW0.out]; have := Bx.new w #[.int .i64 c, .int .i64 r] 92; exact this)
  go_enter Try.func113, Try.ntmps113
  go_wp2
  rw [hW0.out]
  clear hW0
  have fc1 : W0.cell? ⟨w.heap.size, 0, none⟩ = some (.int .i64 c) := HX_a.out.cell 0
  have fc2 : W0.cell? ⟨w.heap.size, 1, none⟩ = some (.int .i64 r) := HX_a.out.cell 1
  go_quiet ((first | (go_at_call 87; (first | with_reducible exact quiet_drewN (i_el_power b r _ b0 b1 r0 r1) | with_reducible exact quiet_drewN (i_el_power k v _ k0 k1 v0 v1))) | (go_at_call 81; with_reducible exact quiet_drewN (HS _).out) | (go_at_call 114; with_reducible exact quiet_drewN (i_el_times _ _ _ p0 p1 q0 q1))))
  go_wp2
  go_ret
  exact ⟨ret_i HV.out, below_drewN HB.out _⟩

set_option maxHeartbeats 2000000 in
theorem i_Proof_answer (x c r : Int) (w : World) :
    Calls Try.prog 80 #[.agg #[.int .i64 x, .int .i64 c, .int .i64 r]] w fun e w' => e = .returned (.agg #[.int .i64 c, .int .i64 r]) ∧ Below w.heap.size w w' := by
  go_enter Try.func80, Try.ntmps80
  go_wp2
  exact bodyPost_ret (v := .agg #[.int .i64 c, .int .i64 r]) (resAn1 rfl rfl (by have := Bx.new (w.alloc (.cells #[.int .i64 x, .int .i64 c, .int .i64 r] 52)) #[.int .i64 c, .int .i64 r] 92; simp only [World.size_alloc] at this; exact this)) rfl ⟨rfl, ((Below.refl _ _).alloc (Nat.le_refl _) _).alloc (by simp only [World.size_alloc]; omega) _⟩

set_option maxHeartbeats 2000000 in
theorem i_Proof_answer_w (x c r : Int) (w : World) :
    Calls Try.prog 80 #[.agg #[.int .i64 x, .int .i64 c, .int .i64 r]] w fun e w' => e = .returned (.agg #[.int .i64 c, .int .i64 r]) ∧ (w.alloc (.cells #[.int .i64 x, .int .i64 c, .int .i64 r] 52)).alloc (.cells #[.int .i64 c, .int .i64 r] 92) = w' := by
  go_enter Try.func80, Try.ntmps80
  go_wp2
  exact bodyPost_ret (v := .agg #[.int .i64 c, .int .i64 r]) (resAn1 rfl rfl (by have := Bx.new (w.alloc (.cells #[.int .i64 x, .int .i64 c, .int .i64 r] 52)) #[.int .i64 c, .int .i64 r] 92; simp only [World.size_alloc] at this; exact this)) rfl ⟨rfl, rfl⟩

set_option maxHeartbeats 2000000 in
theorem i_an_proof (c r k : Int) (w : World) (c0 : 0 ≤ c) (c1 : c ≤ 112) (r0 : 0 ≤ r) (r1 : r ≤ 112) (k0 : 0 ≤ k) (k1 : k ≤ 226) :
    Calls Try.prog 106 #[.agg #[.int .i64 c, .int .i64 r], .int .i64 k] w fun e w' => e = .returned (.agg #[.int .i64 (backI 4 k r c), .int .i64 c, .int .i64 r]) ∧ Below w.heap.size w w' := by
  obtain ⟨W0, hW0⟩ : ∃ W, Hid (((w.alloc (.cells #[.int .i64 c, .int .i64 r] 92)).alloc (.cells #[.int .i64 0, .int .i64 0, .int .i64 0] 52)) = W) := ⟨_, Lib.hid rfl⟩
  have HB : Hid (Below w.heap.size w W0) := Lib.hid (by rw [← hW0.out]; exact ((Below.refl _ _).alloc (Nat.le_refl _) _).alloc (by simp only [World.size_alloc]; omega) _)
  have z_0 : w.heap.size + 2 ≤ W0.heap.size := by rw [← hW0.out]; simp only [World.size_alloc]; omega
  have HX_a : Hid (Bx W0 (w.heap.size) #[.int .i64 c, .int .i64 r] 92) := Lib.hid (by rw [← hW0.out]; have := Bx.new w #[.int .i64 c, .int .i64 r] 92; exact (this.alloc _))
  have HX_R : Hid (Bx W0 (w.heap.size + 1) #[.int .i64 0, .int .i64 0, .int .i64 0] 52) := Lib.hid (by rw [← hW0.out]; have := Bx.new (w.alloc (.cells #[.int .i64 c, .int .i64 r] 92)) #[.int .i64 0, .int .i64 0, .int .i64 0] 52; simp only [World.size_alloc] at this; exact this)
  go_enter Try.func106, Try.ntmps106
  go_wp2
  rw [hW0.out]
  clear hW0
  have hb := HB.out
  have hx_a := HX_a.out
  have hx_R := HX_R.out
  have hc_a_0 : W0.cell? ⟨w.heap.size, 0, none⟩ = some (.int .i64 c) := hx_a.cell 0
  have hc_a_1 : W0.cell? ⟨w.heap.size, 1, none⟩ = some (.int .i64 r) := hx_a.cell 1
  have stq0 : True := trivial
  go_region_held3 (fun w' => Below w.heap.size w w' ∧ w'.cell? ⟨w.heap.size, 0, none⟩ = some (.int .i64 c) ∧ w'.cell? ⟨w.heap.size, 1, none⟩ = some (.int .i64 r))
    (first | exact ⟨hb, hc_a_0, hc_a_1⟩ | exact ⟨hb.drew, hc_a_0, hc_a_1⟩ | exact hst)
    (first
      | (have stq1 := stq0
         clear stq0
         go_at_call 113
         refine (i_an_com c r 4 k _ c0 c1 r0 r1 (by omega) (by omega) k0 k1).mono ?_
         rintro e v1 ⟨rfl, hb_⟩
         have zv1 := hb_.size
         have hbk : Below W0.heap.size W0 v1 := (by first | exact hb_ | exact nb14 hb_)
         replace hb : Below w.heap.size w v1 := hb.trans (hbk.mono hb.size)
         replace hx_a : Bx v1 w.heap.size #[.int .i64 c, .int .i64 r] 92 := hx_a.below hbk hx_a.lt
         replace hx_R : Bx v1 (w.heap.size + 1) #[.int .i64 0, .int .i64 0, .int .i64 0] 52 := hx_R.below hbk hx_R.lt
         replace hc_a_0 : v1.cell? ⟨w.heap.size, 0, none⟩ = some (.int .i64 c) := hx_a.cell 0
         replace hc_a_1 : v1.cell? ⟨w.heap.size, 1, none⟩ = some (.int .i64 r) := hx_a.cell 1
         clear hb_ hbk
         have zdr14 : W0.drew.heap.size = W0.heap.size := rfl
         have hr0 : v1.cell? ⟨(w.heap.size + 1), 0, none⟩ = some (.int .i64 0) := hx_R.cell 0
         have hf0 : v1.frozen? ⟨(w.heap.size + 1), 0, none⟩ = false := hx_R.free 0
         have hr1 : v1.cell? ⟨(w.heap.size + 1), 1, none⟩ = some (.int .i64 0) := hx_R.cell 1
         have hf1 : v1.frozen? ⟨(w.heap.size + 1), 1, none⟩ = false := hx_R.free 1
         have hr2 : v1.cell? ⟨(w.heap.size + 1), 2, none⟩ = some (.int .i64 0) := hx_R.cell 2
         have hf2 : v1.frozen? ⟨(w.heap.size + 1), 2, none⟩ = false := hx_R.free 2
         have hkR : Kept (w.heap.size + 1) ((w.heap.size + 1) + 1) v1 (((v1.setCell ⟨(w.heap.size + 1), 0, none⟩ (.int .i64 (backI 4 k r c))).setCell ⟨(w.heap.size + 1), 1, none⟩ (.int .i64 c)).setCell ⟨(w.heap.size + 1), 2, none⟩ (.int .i64 r)) := st14_3 _ _ _ _ _
         have hst : Below w.heap.size w (((v1.setCell ⟨(w.heap.size + 1), 0, none⟩ (.int .i64 (backI 4 k r c))).setCell ⟨(w.heap.size + 1), 1, none⟩ (.int .i64 c)).setCell ⟨(w.heap.size + 1), 2, none⟩ (.int .i64 r)) ∧ (((v1.setCell ⟨(w.heap.size + 1), 0, none⟩ (.int .i64 (backI 4 k r c))).setCell ⟨(w.heap.size + 1), 1, none⟩ (.int .i64 c)).setCell ⟨(w.heap.size + 1), 2, none⟩ (.int .i64 r)).cell? ⟨w.heap.size, 0, none⟩ = some (.int .i64 c) ∧ (((v1.setCell ⟨(w.heap.size + 1), 0, none⟩ (.int .i64 (backI 4 k r c))).setCell ⟨(w.heap.size + 1), 1, none⟩ (.int .i64 c)).setCell ⟨(w.heap.size + 1), 2, none⟩ (.int .i64 r)).cell? ⟨w.heap.size, 1, none⟩ = some (.int .i64 r) := ⟨hb.trans ((hkR.to_below (by omega)).mono (by omega)), (hx_a.kept hkR (by omega)).cell 0, (hx_a.kept hkR (by omega)).cell 1⟩))
  all_goals (
    go_wp2
    exact bodyPost_ret (v := .agg #[.int .i64 (backI 4 k r c), .int .i64 c, .int .i64 r]) (resPf1 rfl rfl ((((hx_R).set 0 (.int .i64 (backI 4 k r c))).set 1 (.int .i64 c)).set 2 (.int .i64 r))) rfl ⟨rfl, (by first | exact (((hb).setCell (p := ⟨(w.heap.size + 1), 0, none⟩) (by first | exact Nat.le_refl _ | (simp only; omega)) _).setCell (p := ⟨(w.heap.size + 1), 1, none⟩) (by first | exact Nat.le_refl _ | (simp only; omega)) _).setCell (p := ⟨(w.heap.size + 1), 2, none⟩) (by first | exact Nat.le_refl _ | (simp only; omega)) _ | exact ((((hb).setCell (p := ⟨(w.heap.size + 1), 0, none⟩) (by first | exact Nat.le_refl _ | (simp only; omega)) _).setCell (p := ⟨(w.heap.size + 1), 1, none⟩) (by first | exact Nat.le_refl _ | (simp only; omega)) _).setCell (p := ⟨(w.heap.size + 1), 2, none⟩) (by first | exact Nat.le_refl _ | (simp only; omega)) _).drew)⟩)

end Go.Proofs.Ytaiilopfdjbceaa
