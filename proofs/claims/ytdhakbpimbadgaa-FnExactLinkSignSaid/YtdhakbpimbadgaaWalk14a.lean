/- Chapter 14: proofs of knowledge: what both sides build on. Made by tools/gen14/a.py. -/
import Derived.Test.YtdhakbpimbadgaaEl
import Derived.Test.YtdhakbpimbadgaaWalk1b
import Derived.Test.YtdhakbpimbadgaaBx0
import Derived.Test.YtdhakbpimbadgaaMath20
import Derived.Deep.MidRow
import Derived.StillTailTactics
import Derived.BigQuiet
import Derived.Deep.QuietTactic
import Derived.Deep.RegionHeld3
namespace Go.Proofs.Ytdhakbpimbadgaa
open Go.RowKit
set_option maxRecDepth 100000

theorem rtib {a b : Int} {c d : Bool} (h1 : a = b) (h2 : c = d) : Ending.returned (.tuple #[.int .i64 a, .bool c]) = .returned (.tuple #[.int .i64 b, .bool d]) := by rw [h1, h2]
theorem same14 {P : Program} {f : FuncId} {args : Array Value} {w : World} {v : Value} (h : Calls P f args w fun e w' => e = .returned v ∧ w = w') : Calls P f args w fun e w'' => e = .returned v ∧ w'' = w :=
  h.mono fun _ _ ⟨he, hm⟩ => ⟨he, hm.symm⟩
theorem nb14 {w w2 : World} (h : Below w.drew.heap.size w.drew w2) : Below w.heap.size w w2 := (Below.drew (Below.refl _ _)).trans h
theorem st14_2 (w : World) (B : Nat) (a b : Value) : Kept B (B + 1) w ((w.setCell ⟨B, 0, none⟩ a).setCell ⟨B, 1, none⟩ b) :=
  ((Kept.refl _ _ _).setCell (p := ⟨B, 0, none⟩) (Nat.le_refl _) (Nat.lt_succ_self _) _).setCell (p := ⟨B, 1, none⟩) (Nat.le_refl _) (Nat.lt_succ_self _) _
theorem st14_3 (w : World) (B : Nat) (a b c : Value) : Kept B (B + 1) w (((w.setCell ⟨B, 0, none⟩ a).setCell ⟨B, 1, none⟩ b).setCell ⟨B, 2, none⟩ c) :=
  (st14_2 w B a b).setCell (p := ⟨B, 2, none⟩) (Nat.le_refl _) (Nat.lt_succ_self _) _
theorem st14_4 (w : World) (B : Nat) (a b c d : Value) : Kept B (B + 1) w ((((w.setCell ⟨B, 0, none⟩ a).setCell ⟨B, 1, none⟩ b).setCell ⟨B, 2, none⟩ c).setCell ⟨B, 3, none⟩ d) :=
  (st14_3 w B a b c).setCell (p := ⟨B, 3, none⟩) (Nat.le_refl _) (Nat.lt_succ_self _) _
theorem Bx.rdI {w : World} {b e : Nat} {cs : Array Value} {zs : List Int} (h : Bx w b cs e) (hz : cs.toList = cI zs) : Rd w w.heap.size 1 (some ⟨b, 0, none⟩) zs.length (cI zs) := by
  refine ⟨by simp [cI_length], fun _ => ⟨_, rfl, h.lt, fun j u hj => ?_⟩⟩
  rw [add_zero_head, h.cell j, ← hj, ← hz, Array.getElem?_toList]
def makeB (s n c : Int) : Bool := numB s && (numB n && numB c)
def makeD (s n c : Int) : Int × Int × Int := if makeB s n c = true then (powI 4 n 227, c, (n + c * s) % 113) else (0, 0, 0)
def feignD (k c r : Int) : Int × Int × Int := if feignB k c r = true then (backI 4 k r c, c, r) else (0, 0, 0)
def nonceV (s c r : Int) : Int := if makeB s c r = true then (r - c * s) % 113 else 0
def tmakeB (a b s n c : Int) : Bool := (elB a && elB b) && makeB s n c
def tmakeD (a b s n c : Int) : Int × Int × Int × Int := if tmakeB a b s n c = true then (powI a n 227, powI b n 227, c, (n + c * s) % 113) else (0, 0, 0, 0)
def tfeignD (a b k l c r : Int) : Int × Int × Int × Int := if twinFB a b k l c r = true then (backI a k r c, backI b l r c, c, r) else (0, 0, 0, 0)
def secB (k x c r y d s : Int) : Bool := goodB k x c r && (goodB k y d s && (decide (x = y) && decide (c ≠ d)))
def secV (k x c r y d s : Int) : Int := if secB k x c r y d s = true then (r - s) % 113 * powI ((c - d) % 113) 111 113 % 113 else 0
theorem inv_bd14 (a : Int) : 0 ≤ powI a 111 113 ∧ powI a 111 113 ≤ 112 := ⟨powI_lo _ _ _, powI_hi _ _ _ (by omega)⟩

theorem inforesPf : (Try.prog.info? 54).map (·.size) = some 3 := by kernel_rfl
theorem resPf1 {fn : Func} {t : Tmp} {tmps : Array Value} {w : World} {g : Nat} {a0 a1 a2 : Value} (h : fn.results = #[.cell t 54]) (ht : tmps.getD t undef = .pointer (some ⟨g, 0, none⟩)) (hb : Bx w g #[a0, a1, a2] 54) :
    (results fn tmps).run Try.prog w = .ok (.agg #[a0, a1, a2]) w := by
  have hr : w.rangeAt g 0 [a0, a1, a2] := fun j v hv => by
    rw [Nat.zero_add, cell_of_row w g j _ _ (0, 0) hb]; simpa using hv
  have := run_loadVar_mid (P := Try.prog) w g 0 54 [a0, a1, a2] _ hr Try.underlying54 rfl inforesPf
  have ht2 : tmps[t]?.getD undef = .pointer (some ⟨g, 0, none⟩) := by rw [← ht]; simp
  simp [results, h, ht2, this, asAddr]
theorem resPf2 {fn : Func} {t u : Tmp} {tmps : Array Value} {w : World} {g : Nat} {a0 a1 a2 x : Value} (h : fn.results = #[.cell t 54, .tmp u]) (ht : tmps.getD t undef = .pointer (some ⟨g, 0, none⟩)) (hu : tmps.getD u undef = x) (hb : Bx w g #[a0, a1, a2] 54) :
    (results fn tmps).run Try.prog w = .ok (.tuple #[.agg #[a0, a1, a2], x]) w := by
  have hr : w.rangeAt g 0 [a0, a1, a2] := fun j v hv => by
    rw [Nat.zero_add, cell_of_row w g j _ _ (0, 0) hb]; simpa using hv
  have := run_loadVar_mid (P := Try.prog) w g 0 54 [a0, a1, a2] _ hr Try.underlying54 rfl inforesPf
  have ht2 : tmps[t]?.getD undef = .pointer (some ⟨g, 0, none⟩) := by rw [← ht]; simp
  subst hu
  simp [results, h, ht2, this, asAddr]
theorem inforesTw : (Try.prog.info? 76).map (·.size) = some 4 := by kernel_rfl
theorem resTw1 {fn : Func} {t : Tmp} {tmps : Array Value} {w : World} {g : Nat} {a0 a1 a2 a3 : Value} (h : fn.results = #[.cell t 76]) (ht : tmps.getD t undef = .pointer (some ⟨g, 0, none⟩)) (hb : Bx w g #[a0, a1, a2, a3] 76) :
    (results fn tmps).run Try.prog w = .ok (.agg #[a0, a1, a2, a3]) w := by
  have hr : w.rangeAt g 0 [a0, a1, a2, a3] := fun j v hv => by
    rw [Nat.zero_add, cell_of_row w g j _ _ (0, 0) hb]; simpa using hv
  have := run_loadVar_mid (P := Try.prog) w g 0 76 [a0, a1, a2, a3] _ hr Try.underlying76 rfl inforesTw
  have ht2 : tmps[t]?.getD undef = .pointer (some ⟨g, 0, none⟩) := by rw [← ht]; simp
  simp [results, h, ht2, this, asAddr]
theorem resTw2 {fn : Func} {t u : Tmp} {tmps : Array Value} {w : World} {g : Nat} {a0 a1 a2 a3 x : Value} (h : fn.results = #[.cell t 76, .tmp u]) (ht : tmps.getD t undef = .pointer (some ⟨g, 0, none⟩)) (hu : tmps.getD u undef = x) (hb : Bx w g #[a0, a1, a2, a3] 76) :
    (results fn tmps).run Try.prog w = .ok (.tuple #[.agg #[a0, a1, a2, a3], x]) w := by
  have hr : w.rangeAt g 0 [a0, a1, a2, a3] := fun j v hv => by
    rw [Nat.zero_add, cell_of_row w g j _ _ (0, 0) hb]; simpa using hv
  have := run_loadVar_mid (P := Try.prog) w g 0 76 [a0, a1, a2, a3] _ hr Try.underlying76 rfl inforesTw
  have ht2 : tmps[t]?.getD undef = .pointer (some ⟨g, 0, none⟩) := by rw [← ht]; simp
  subst hu
  simp [results, h, ht2, this, asAddr]
theorem inforesPr : (Try.prog.info? 80).map (·.size) = some 2 := by kernel_rfl
theorem resPr1 {fn : Func} {t : Tmp} {tmps : Array Value} {w : World} {g : Nat} {a0 a1 : Value} (h : fn.results = #[.cell t 80]) (ht : tmps.getD t undef = .pointer (some ⟨g, 0, none⟩)) (hb : Bx w g #[a0, a1] 80) :
    (results fn tmps).run Try.prog w = .ok (.agg #[a0, a1]) w := by
  have hr : w.rangeAt g 0 [a0, a1] := fun j v hv => by
    rw [Nat.zero_add, cell_of_row w g j _ _ (0, 0) hb]; simpa using hv
  have := run_loadVar_mid (P := Try.prog) w g 0 80 [a0, a1] _ hr Try.underlying80 rfl inforesPr
  have ht2 : tmps[t]?.getD undef = .pointer (some ⟨g, 0, none⟩) := by rw [← ht]; simp
  simp [results, h, ht2, this, asAddr]
theorem resPr2 {fn : Func} {t u : Tmp} {tmps : Array Value} {w : World} {g : Nat} {a0 a1 x : Value} (h : fn.results = #[.cell t 80, .tmp u]) (ht : tmps.getD t undef = .pointer (some ⟨g, 0, none⟩)) (hu : tmps.getD u undef = x) (hb : Bx w g #[a0, a1] 80) :
    (results fn tmps).run Try.prog w = .ok (.tuple #[.agg #[a0, a1], x]) w := by
  have hr : w.rangeAt g 0 [a0, a1] := fun j v hv => by
    rw [Nat.zero_add, cell_of_row w g j _ _ (0, 0) hb]; simpa using hv
  have := run_loadVar_mid (P := Try.prog) w g 0 80 [a0, a1] _ hr Try.underlying80 rfl inforesPr
  have ht2 : tmps[t]?.getD undef = .pointer (some ⟨g, 0, none⟩) := by rw [← ht]; simp
  subst hu
  simp [results, h, ht2, this, asAddr]
theorem inforesAn : (Try.prog.info? 64).map (·.size) = some 2 := by kernel_rfl
theorem resAn1 {fn : Func} {t : Tmp} {tmps : Array Value} {w : World} {g : Nat} {a0 a1 : Value} (h : fn.results = #[.cell t 64]) (ht : tmps.getD t undef = .pointer (some ⟨g, 0, none⟩)) (hb : Bx w g #[a0, a1] 64) :
    (results fn tmps).run Try.prog w = .ok (.agg #[a0, a1]) w := by
  have hr : w.rangeAt g 0 [a0, a1] := fun j v hv => by
    rw [Nat.zero_add, cell_of_row w g j _ _ (0, 0) hb]; simpa using hv
  have := run_loadVar_mid (P := Try.prog) w g 0 64 [a0, a1] _ hr Try.underlying64 rfl inforesAn
  have ht2 : tmps[t]?.getD undef = .pointer (some ⟨g, 0, none⟩) := by rw [← ht]; simp
  simp [results, h, ht2, this, asAddr]
theorem resAn2 {fn : Func} {t u : Tmp} {tmps : Array Value} {w : World} {g : Nat} {a0 a1 x : Value} (h : fn.results = #[.cell t 64, .tmp u]) (ht : tmps.getD t undef = .pointer (some ⟨g, 0, none⟩)) (hu : tmps.getD u undef = x) (hb : Bx w g #[a0, a1] 64) :
    (results fn tmps).run Try.prog w = .ok (.tuple #[.agg #[a0, a1], x]) w := by
  have hr : w.rangeAt g 0 [a0, a1] := fun j v hv => by
    rw [Nat.zero_add, cell_of_row w g j _ _ (0, 0) hb]; simpa using hv
  have := run_loadVar_mid (P := Try.prog) w g 0 64 [a0, a1] _ hr Try.underlying64 rfl inforesAn
  have ht2 : tmps[t]?.getD undef = .pointer (some ⟨g, 0, none⟩) := by rw [← ht]; simp
  subst hu
  simp [results, h, ht2, this, asAddr]

set_option maxHeartbeats 1000000 in
theorem s_l14Back (b k r c : Int) (w : World) (hb : 0 ≤ b ∧ b ≤ 226) (hk : 0 ≤ k ∧ k ≤ 226) (hr : 0 ≤ r ∧ r ≤ 112) (hc : 0 ≤ c ∧ c ≤ 112) :
    Calls Try.prog 83 #[.int .i64 b, .int .i64 r, .int .i64 k, .int .i64 c] w fun e w' => e = .returned (.int .i64 (backI b k r c)) ∧ w = w' := by
  obtain ⟨p0, p1⟩ := powI_bd b r
  obtain ⟨q0, q1⟩ := powI_bd k ((0 - c) % 113)
  obtain ⟨m0, m1⟩ := mul_bd2 _ _ p0 p1 q0 q1
  have n0 : 0 ≤ (0 - c) % 113 := by omega
  have n1 : (0 - c) % 113 ≤ 112 := by omega
  obtain ⟨c0, c1⟩ := hc
  obtain ⟨v, hv⟩ : ∃ v, Hid (v = (0 - c) % 113) := ⟨_, Lib.hid rfl⟩
  have HS : ∀ W : World, Hid (Calls Try.prog 39 #[.int .i64 0, .int .i64 c] W fun e w' => e = .returned (.int .i64 v) ∧ W = w') := fun W => Lib.hid (by rw [hv.out]; exact s_l1Sub 0 c W (by omega) (by omega) c0 c1)
  have HB : Hid (backI b k r c = powI b r 227 * powI k v 227 % 227) := Lib.hid (by rw [hv.out]; rfl)
  rw [← hv.out] at q0 q1 m0 m1 n0 n1
  go_enter Try.func83, Try.ntmps83
  go_wp2_with (first
    | (go_at_call 54; (first | (with_reducible refine (s_l1Pow b r _ (by omega) (by omega) (by omega) (by omega)).mono ?_) | (with_reducible refine (s_l1Pow k v _ (by omega) (by omega) (by omega) (by omega)).mono ?_)); rintro e w' ⟨rfl, rfl⟩)
    | (go_at_call 39; refine (HS _).out.mono ?_; rintro e w' ⟨rfl, rfl⟩))
  go_ret
  exact ⟨ret_i HB.out.symm, rfl⟩

set_option maxHeartbeats 2000000 in
theorem i_answering (s n c : Int) (w : World) (s0 : 0 ≤ s) (s1 : s ≤ 112) (n0 : 0 ≤ n) (n1 : n ≤ 112) (c0 : 0 ≤ c) (c1 : c ≤ 112) :
    Calls Try.prog 91 #[.int .i64 s, .int .i64 n, .int .i64 c] w fun e w' => e = .returned (.agg #[.int .i64 c, .int .i64 ((n + c * s) % 113)]) ∧ Below w.heap.size w w' := by
  obtain ⟨p, hv_p⟩ : ∃ v, Hid (v = c * s % 113) := ⟨_, Lib.hid rfl⟩
  have p0 : 0 ≤ p := by have := hv_p.out; omega
  have p1 : p ≤ 112 := by have := hv_p.out; omega
  have H_p : ∀ W : World, Hid (Calls Try.prog 112 #[.int .i64 c, .int .i64 s] W fun e w' => e = .returned (.int .i64 p) ∧ W = w') := fun W => Lib.hid (by rw [hv_p.out]; exact i_times _ _ _ c0 c1 s0 s1)
  obtain ⟨v, hv_v⟩ : ∃ v, Hid (v = (n + p) % 113) := ⟨_, Lib.hid rfl⟩
  have v0 : 0 ≤ v := by have := hv_v.out; omega
  have v1 : v ≤ 112 := by have := hv_v.out; omega
  have H_v : ∀ W : World, Hid (Calls Try.prog 104 #[.int .i64 n, .int .i64 p] W fun e w' => e = .returned (.int .i64 v) ∧ W = w') := fun W => Lib.hid (by rw [hv_v.out]; exact i_plus _ _ _ n0 n1 p0 p1)
  rw [show (n + c * s) % 113 = v by have := hv_v.out; have := hv_p.out; omega]
  obtain ⟨W0, hW0⟩ : ∃ W, Hid ((w.alloc (.cells #[.int .i64 0, .int .i64 0] 64)) = W) := ⟨_, Lib.hid rfl⟩
  have HB : Hid (Below w.heap.size w W0) := Lib.hid (by rw [← hW0.out]; exact (Below.refl _ _).alloc (Nat.le_refl _) _)
  have z_0 : w.heap.size + 1 ≤ W0.heap.size := by rw [← hW0.out]; simp only [World.size_alloc]; omega
  have HX_R : Hid (Bx W0 (w.heap.size) #[.int .i64 0, .int .i64 0] 64) := Lib.hid (by rw [← hW0.out]; have := Bx.new w #[.int .i64 0, .int .i64 0] 64; exact this)
  go_enter Try.func91, Try.ntmps91
  go_wp2_with fail
  rw [hW0.out]
  clear hW0
  refine ((H_p _).out).mono ?_
  rintro e w' ⟨rfl, rfl⟩
  have fc1 : W0.cell? ⟨w.heap.size, 0, none⟩ = some (.int .i64 0) := HX_R.out.cell 0
  have fc2 : W0.cell? ⟨w.heap.size, 1, none⟩ = some (.int .i64 0) := HX_R.out.cell 1
  go_wp2_with fail
  clear fc1 fc2
  refine ((H_v _).out).mono ?_
  rintro e w' ⟨rfl, rfl⟩
  have fc3 : W0.cell? ⟨w.heap.size, 0, none⟩ = some (.int .i64 0) := HX_R.out.cell 0
  have fc4 : W0.cell? ⟨w.heap.size, 1, none⟩ = some (.int .i64 0) := HX_R.out.cell 1
  have fz5 : W0.frozen? ⟨w.heap.size, 0, none⟩ = false := HX_R.out.free 0
  have fz6 : W0.frozen? ⟨w.heap.size, 1, none⟩ = false := HX_R.out.free 1
  go_wp2
  exact bodyPost_ret (v := .agg #[.int .i64 c, .int .i64 v]) (resAn1 rfl rfl (((HX_R.out).set 0 (.int .i64 c)).set 1 (.int .i64 v))) rfl ⟨rfl, (by first | exact ((HB.out).setCell (p := ⟨w.heap.size, 0, none⟩) (by first | exact Nat.le_refl _ | (simp only; omega)) _).setCell (p := ⟨w.heap.size, 1, none⟩) (by first | exact Nat.le_refl _ | (simp only; omega)) _ | exact (((HB.out).setCell (p := ⟨w.heap.size, 0, none⟩) (by first | exact Nat.le_refl _ | (simp only; omega)) _).setCell (p := ⟨w.heap.size, 1, none⟩) (by first | exact Nat.le_refl _ | (simp only; omega)) _).drew)⟩

set_option maxHeartbeats 400000 in
theorem i_number_ok (a : Int) (w : World) :
    Calls Try.prog 86 #[.int .i64 a] w fun e w' => e = .returned (.bool (numB a)) ∧ w = w' := by
  by_cases h1 : 0 ≤ a
  all_goals by_cases h2 : a < 113
  all_goals
    have HN : Hid (numB a = (decide (0 ≤ a) && decide (a < 113))) := Lib.hid (by rw [Bool.eq_iff_iff]; simp [numB]; omega)
    go_enter Try.func86, Try.ntmps86
    go_wp2
    go_ret
    exact ⟨ret_bool (by rw [HN.out]; simp [h1, h2]), rfl⟩

set_option maxHeartbeats 2000000 in
theorem i_an_ok (c r : Int) (w : World) :
    Calls Try.prog 118 #[.agg #[.int .i64 c, .int .i64 r]] w fun e w' => e = .returned (.bool (numB c && numB r)) ∧ Below w.heap.size w w' := by
  obtain ⟨W0, hW0⟩ : ∃ W, Hid ((w.alloc (.cells #[.int .i64 c, .int .i64 r] 64)) = W) := ⟨_, Lib.hid rfl⟩
  have HB : Hid (Below w.heap.size w W0) := Lib.hid (by rw [← hW0.out]; exact (Below.refl _ _).alloc (Nat.le_refl _) _)
  have z_0 : w.heap.size + 1 ≤ W0.heap.size := by rw [← hW0.out]; simp only [World.size_alloc]; omega
  have HX_a : Hid (Bx W0 (w.heap.size) #[.int .i64 c, .int .i64 r] 64) := Lib.hid (by rw [← hW0.out]; have := Bx.new w #[.int .i64 c, .int .i64 r] 64; exact this)
  go_enter Try.func118, Try.ntmps118
  go_wp2_with fail
  rw [hW0.out]
  clear hW0
  refine (i_number_ok _ _).mono ?_
  rintro e w' ⟨rfl, rfl⟩
  cases h1 : numB c
  · have fc1 : W0.cell? ⟨w.heap.size, 0, none⟩ = some (.int .i64 c) := HX_a.out.cell 0
    have fc2 : W0.cell? ⟨w.heap.size, 1, none⟩ = some (.int .i64 r) := HX_a.out.cell 1
    go_wp2
    go_ret
    exact ⟨ret_bool (by rw [h1]; rfl), HB.out⟩
  have fc3 : W0.cell? ⟨w.heap.size, 0, none⟩ = some (.int .i64 c) := HX_a.out.cell 0
  have fc4 : W0.cell? ⟨w.heap.size, 1, none⟩ = some (.int .i64 r) := HX_a.out.cell 1
  go_wp2_with fail
  clear fc3 fc4
  refine (i_number_ok _ _).mono ?_
  rintro e w' ⟨rfl, rfl⟩
  go_wp2
  go_ret
  exact ⟨ret_bool (by rw [h1]; rfl), HB.out⟩

set_option maxHeartbeats 2000000 in
theorem i_an_com (c r b k : Int) (w : World) (c0 : 0 ≤ c) (c1 : c ≤ 112) (r0 : 0 ≤ r) (r1 : r ≤ 112) (b0 : 0 ≤ b) (b1 : b ≤ 226) (k0 : 0 ≤ k) (k1 : k ≤ 226) :
    Calls Try.prog 92 #[.agg #[.int .i64 c, .int .i64 r], .int .i64 b, .int .i64 k] w fun e w' => e = .returned (.int .i64 (backI b k r c)) ∧ Below w.heap.size w w' := by
  obtain ⟨p0, p1⟩ := powI_bd b r
  obtain ⟨v, hv⟩ : ∃ v, Hid (v = (0 - c) % 113) := ⟨_, Lib.hid rfl⟩
  have v0 : 0 ≤ v := by have := hv.out; omega
  have v1 : v ≤ 112 := by have := hv.out; omega
  obtain ⟨q0, q1⟩ := powI_bd k v
  have HS : ∀ W : World, Hid (Calls Try.prog 90 #[.int .i64 0, .int .i64 c] W fun e w' => e = .returned (.int .i64 v) ∧ W = w') := fun W => Lib.hid (by rw [hv.out]; exact i_minus 0 c W (by omega) (by omega) c0 c1)
  have HV : Hid (powI b r 227 * powI k v 227 % 227 = backI b k r c) := Lib.hid (by rw [hv.out]; rfl)
  obtain ⟨W0, hW0⟩ : ∃ W, Hid ((w.alloc (.cells #[.int .i64 c, .int .i64 r] 64)) = W) := ⟨_, Lib.hid rfl⟩
  have HB : Hid (Below w.heap.size w W0) := Lib.hid (by rw [← hW0.out]; exact (Below.refl _ _).alloc (Nat.le_refl _) _)
  have z_0 : w.heap.size + 1 ≤ W0.heap.size := by rw [← hW0.out]; simp only [World.size_alloc]; omega
  have HX_a : Hid (Bx W0 (w.heap.size) #[.int .i64 c, .int .i64 r] 64) := Lib.hid (by rw [← hW0.out]; have := Bx.new w #[.int .i64 c, .int .i64 r] 64; exact this)
  go_enter Try.func92, Try.ntmps92
  go_wp2
  rw [hW0.out]
  clear hW0
  have fc1 : W0.cell? ⟨w.heap.size, 0, none⟩ = some (.int .i64 c) := HX_a.out.cell 0
  have fc2 : W0.cell? ⟨w.heap.size, 1, none⟩ = some (.int .i64 r) := HX_a.out.cell 1
  go_quiet ((first | (go_at_call 87; (first | with_reducible exact quiet_drewN (i_el_power b r _ b0 b1 r0 r1) | with_reducible exact quiet_drewN (i_el_power k v _ k0 k1 v0 v1))) | (go_at_call 90; with_reducible exact quiet_drewN (HS _).out) | (go_at_call 113; with_reducible exact quiet_drewN (i_el_times _ _ _ p0 p1 q0 q1))))
  go_wp2
  go_ret
  exact ⟨ret_i HV.out, below_drewN HB.out _⟩

set_option maxHeartbeats 2000000 in
theorem i_Proof_answer (x c r : Int) (w : World) :
    Calls Try.prog 135 #[.agg #[.int .i64 x, .int .i64 c, .int .i64 r]] w fun e w' => e = .returned (.agg #[.int .i64 c, .int .i64 r]) ∧ Below w.heap.size w w' := by
  go_enter Try.func135, Try.ntmps135
  go_wp2
  exact bodyPost_ret (v := .agg #[.int .i64 c, .int .i64 r]) (resAn1 rfl rfl (by have := Bx.new (w.alloc (.cells #[.int .i64 x, .int .i64 c, .int .i64 r] 54)) #[.int .i64 c, .int .i64 r] 64; simp only [World.size_alloc] at this; exact this)) rfl ⟨rfl, ((Below.refl _ _).alloc (Nat.le_refl _) _).alloc (by simp only [World.size_alloc]; omega) _⟩

set_option maxHeartbeats 2000000 in
theorem i_Proof_answer_w (x c r : Int) (w : World) :
    Calls Try.prog 135 #[.agg #[.int .i64 x, .int .i64 c, .int .i64 r]] w fun e w' => e = .returned (.agg #[.int .i64 c, .int .i64 r]) ∧ (w.alloc (.cells #[.int .i64 x, .int .i64 c, .int .i64 r] 54)).alloc (.cells #[.int .i64 c, .int .i64 r] 64) = w' := by
  go_enter Try.func135, Try.ntmps135
  go_wp2
  exact bodyPost_ret (v := .agg #[.int .i64 c, .int .i64 r]) (resAn1 rfl rfl (by have := Bx.new (w.alloc (.cells #[.int .i64 x, .int .i64 c, .int .i64 r] 54)) #[.int .i64 c, .int .i64 r] 64; simp only [World.size_alloc] at this; exact this)) rfl ⟨rfl, rfl⟩

set_option maxHeartbeats 2000000 in
theorem i_Twin_answer (x y c r : Int) (w : World) :
    Calls Try.prog 138 #[.agg #[.int .i64 x, .int .i64 y, .int .i64 c, .int .i64 r]] w fun e w' => e = .returned (.agg #[.int .i64 c, .int .i64 r]) ∧ Below w.heap.size w w' := by
  go_enter Try.func138, Try.ntmps138
  go_wp2
  exact bodyPost_ret (v := .agg #[.int .i64 c, .int .i64 r]) (resAn1 rfl rfl (by have := Bx.new (w.alloc (.cells #[.int .i64 x, .int .i64 y, .int .i64 c, .int .i64 r] 76)) #[.int .i64 c, .int .i64 r] 64; simp only [World.size_alloc] at this; exact this)) rfl ⟨rfl, ((Below.refl _ _).alloc (Nat.le_refl _) _).alloc (by simp only [World.size_alloc]; omega) _⟩

set_option maxHeartbeats 2000000 in
theorem i_Twin_answer_w (x y c r : Int) (w : World) :
    Calls Try.prog 138 #[.agg #[.int .i64 x, .int .i64 y, .int .i64 c, .int .i64 r]] w fun e w' => e = .returned (.agg #[.int .i64 c, .int .i64 r]) ∧ (w.alloc (.cells #[.int .i64 x, .int .i64 y, .int .i64 c, .int .i64 r] 76)).alloc (.cells #[.int .i64 c, .int .i64 r] 64) = w' := by
  go_enter Try.func138, Try.ntmps138
  go_wp2
  exact bodyPost_ret (v := .agg #[.int .i64 c, .int .i64 r]) (resAn1 rfl rfl (by have := Bx.new (w.alloc (.cells #[.int .i64 x, .int .i64 y, .int .i64 c, .int .i64 r] 76)) #[.int .i64 c, .int .i64 r] 64; simp only [World.size_alloc] at this; exact this)) rfl ⟨rfl, rfl⟩

set_option maxHeartbeats 2000000 in
theorem i_pair_ok (a b : Int) (w : World) :
    Calls Try.prog 119 #[.agg #[.int .i64 a, .int .i64 b]] w fun e w' => e = .returned (.bool (elB a && elB b)) ∧ Below w.heap.size w w' := by
  obtain ⟨W0, hW0⟩ : ∃ W, Hid ((w.alloc (.cells #[.int .i64 a, .int .i64 b] 80)) = W) := ⟨_, Lib.hid rfl⟩
  have HB : Hid (Below w.heap.size w W0) := Lib.hid (by rw [← hW0.out]; exact (Below.refl _ _).alloc (Nat.le_refl _) _)
  have z_0 : w.heap.size + 1 ≤ W0.heap.size := by rw [← hW0.out]; simp only [World.size_alloc]; omega
  have HX_a : Hid (Bx W0 (w.heap.size) #[.int .i64 a, .int .i64 b] 80) := Lib.hid (by rw [← hW0.out]; have := Bx.new w #[.int .i64 a, .int .i64 b] 80; exact this)
  go_enter Try.func119, Try.ntmps119
  go_wp2_with fail
  rw [hW0.out]
  clear hW0
  refine (i_ElementOk _ _).mono ?_
  rintro e w' ⟨rfl, rfl⟩
  cases h1 : elB a
  · have fc1 : W0.cell? ⟨w.heap.size, 0, none⟩ = some (.int .i64 a) := HX_a.out.cell 0
    have fc2 : W0.cell? ⟨w.heap.size, 1, none⟩ = some (.int .i64 b) := HX_a.out.cell 1
    go_wp2
    go_ret
    exact ⟨ret_bool (by rw [h1]; rfl), HB.out⟩
  have fc3 : W0.cell? ⟨w.heap.size, 0, none⟩ = some (.int .i64 a) := HX_a.out.cell 0
  have fc4 : W0.cell? ⟨w.heap.size, 1, none⟩ = some (.int .i64 b) := HX_a.out.cell 1
  go_wp2_with fail
  clear fc3 fc4
  refine (i_ElementOk _ _).mono ?_
  rintro e w' ⟨rfl, rfl⟩
  go_wp2
  go_ret
  exact ⟨ret_bool (by rw [h1]; rfl), HB.out⟩

set_option maxHeartbeats 2000000 in
theorem i_an_proof (c r k : Int) (w : World) (c0 : 0 ≤ c) (c1 : c ≤ 112) (r0 : 0 ≤ r) (r1 : r ≤ 112) (k0 : 0 ≤ k) (k1 : k ≤ 226) :
    Calls Try.prog 47 #[.agg #[.int .i64 c, .int .i64 r], .int .i64 k] w fun e w' => e = .returned (.agg #[.int .i64 (backI 4 k r c), .int .i64 c, .int .i64 r]) ∧ Below w.heap.size w w' := by
  obtain ⟨W0, hW0⟩ : ∃ W, Hid (((w.alloc (.cells #[.int .i64 c, .int .i64 r] 64)).alloc (.cells #[.int .i64 0, .int .i64 0, .int .i64 0] 54)) = W) := ⟨_, Lib.hid rfl⟩
  have HB : Hid (Below w.heap.size w W0) := Lib.hid (by rw [← hW0.out]; exact ((Below.refl _ _).alloc (Nat.le_refl _) _).alloc (by simp only [World.size_alloc]; omega) _)
  have z_0 : w.heap.size + 2 ≤ W0.heap.size := by rw [← hW0.out]; simp only [World.size_alloc]; omega
  have HX_a : Hid (Bx W0 (w.heap.size) #[.int .i64 c, .int .i64 r] 64) := Lib.hid (by rw [← hW0.out]; have := Bx.new w #[.int .i64 c, .int .i64 r] 64; exact (this.alloc _))
  have HX_R : Hid (Bx W0 (w.heap.size + 1) #[.int .i64 0, .int .i64 0, .int .i64 0] 54) := Lib.hid (by rw [← hW0.out]; have := Bx.new (w.alloc (.cells #[.int .i64 c, .int .i64 r] 64)) #[.int .i64 0, .int .i64 0, .int .i64 0] 54; simp only [World.size_alloc] at this; exact this)
  go_enter Try.func47, Try.ntmps47
  go_wp2
  rw [hW0.out]
  clear hW0
  have hb := HB.out
  have hx_a := HX_a.out
  have hx_R := HX_R.out
  have hc_a_0 : W0.cell? ⟨w.heap.size, 0, none⟩ = some (.int .i64 c) := hx_a.cell 0
  have hc_a_1 : W0.cell? ⟨w.heap.size, 1, none⟩ = some (.int .i64 r) := hx_a.cell 1
  have stq0 : True := trivial
  go_region_held3 (fun w' => Below w.heap.size w w' ∧ w'.cell? ⟨w.heap.size, 0, none⟩ = some (.int .i64 c) ∧ w'.cell? ⟨w.heap.size, 1, none⟩ = some (.int .i64 r))
    (first | exact ⟨hb, hc_a_0, hc_a_1⟩ | exact ⟨hb.drew, hc_a_0, hc_a_1⟩ | exact hst)
    (first
      | (have stq1 := stq0
         clear stq0
         go_at_call 92
         refine (i_an_com c r 4 k _ c0 c1 r0 r1 (by omega) (by omega) k0 k1).mono ?_
         rintro e v1 ⟨rfl, hb_⟩
         have zv1 := hb_.size
         have hbk : Below W0.heap.size W0 v1 := (by first | exact hb_ | exact nb14 hb_)
         replace hb : Below w.heap.size w v1 := hb.trans (hbk.mono hb.size)
         replace hx_a : Bx v1 w.heap.size #[.int .i64 c, .int .i64 r] 64 := hx_a.below hbk hx_a.lt
         replace hx_R : Bx v1 (w.heap.size + 1) #[.int .i64 0, .int .i64 0, .int .i64 0] 54 := hx_R.below hbk hx_R.lt
         replace hc_a_0 : v1.cell? ⟨w.heap.size, 0, none⟩ = some (.int .i64 c) := hx_a.cell 0
         replace hc_a_1 : v1.cell? ⟨w.heap.size, 1, none⟩ = some (.int .i64 r) := hx_a.cell 1
         clear hb_ hbk
         have zdr14 : W0.drew.heap.size = W0.heap.size := rfl
         have hr0 : v1.cell? ⟨(w.heap.size + 1), 0, none⟩ = some (.int .i64 0) := hx_R.cell 0
         have hf0 : v1.frozen? ⟨(w.heap.size + 1), 0, none⟩ = false := hx_R.free 0
         have hr1 : v1.cell? ⟨(w.heap.size + 1), 1, none⟩ = some (.int .i64 0) := hx_R.cell 1
         have hf1 : v1.frozen? ⟨(w.heap.size + 1), 1, none⟩ = false := hx_R.free 1
         have hr2 : v1.cell? ⟨(w.heap.size + 1), 2, none⟩ = some (.int .i64 0) := hx_R.cell 2
         have hf2 : v1.frozen? ⟨(w.heap.size + 1), 2, none⟩ = false := hx_R.free 2
         have hkR : Kept (w.heap.size + 1) ((w.heap.size + 1) + 1) v1 (((v1.setCell ⟨(w.heap.size + 1), 0, none⟩ (.int .i64 (backI 4 k r c))).setCell ⟨(w.heap.size + 1), 1, none⟩ (.int .i64 c)).setCell ⟨(w.heap.size + 1), 2, none⟩ (.int .i64 r)) := st14_3 _ _ _ _ _
         have hst : Below w.heap.size w (((v1.setCell ⟨(w.heap.size + 1), 0, none⟩ (.int .i64 (backI 4 k r c))).setCell ⟨(w.heap.size + 1), 1, none⟩ (.int .i64 c)).setCell ⟨(w.heap.size + 1), 2, none⟩ (.int .i64 r)) ∧ (((v1.setCell ⟨(w.heap.size + 1), 0, none⟩ (.int .i64 (backI 4 k r c))).setCell ⟨(w.heap.size + 1), 1, none⟩ (.int .i64 c)).setCell ⟨(w.heap.size + 1), 2, none⟩ (.int .i64 r)).cell? ⟨w.heap.size, 0, none⟩ = some (.int .i64 c) ∧ (((v1.setCell ⟨(w.heap.size + 1), 0, none⟩ (.int .i64 (backI 4 k r c))).setCell ⟨(w.heap.size + 1), 1, none⟩ (.int .i64 c)).setCell ⟨(w.heap.size + 1), 2, none⟩ (.int .i64 r)).cell? ⟨w.heap.size, 1, none⟩ = some (.int .i64 r) := ⟨hb.trans ((hkR.to_below (by omega)).mono (by omega)), (hx_a.kept hkR (by omega)).cell 0, (hx_a.kept hkR (by omega)).cell 1⟩))
  all_goals (
    go_wp2
    exact bodyPost_ret (v := .agg #[.int .i64 (backI 4 k r c), .int .i64 c, .int .i64 r]) (resPf1 rfl rfl ((((hx_R).set 0 (.int .i64 (backI 4 k r c))).set 1 (.int .i64 c)).set 2 (.int .i64 r))) rfl ⟨rfl, (by first | exact (((hb).setCell (p := ⟨(w.heap.size + 1), 0, none⟩) (by first | exact Nat.le_refl _ | (simp only; omega)) _).setCell (p := ⟨(w.heap.size + 1), 1, none⟩) (by first | exact Nat.le_refl _ | (simp only; omega)) _).setCell (p := ⟨(w.heap.size + 1), 2, none⟩) (by first | exact Nat.le_refl _ | (simp only; omega)) _ | exact ((((hb).setCell (p := ⟨(w.heap.size + 1), 0, none⟩) (by first | exact Nat.le_refl _ | (simp only; omega)) _).setCell (p := ⟨(w.heap.size + 1), 1, none⟩) (by first | exact Nat.le_refl _ | (simp only; omega)) _).setCell (p := ⟨(w.heap.size + 1), 2, none⟩) (by first | exact Nat.le_refl _ | (simp only; omega)) _).drew)⟩)

set_option maxHeartbeats 2000000 in
theorem i_an_twin (c r a b k l : Int) (w : World) (c0 : 0 ≤ c) (c1 : c ≤ 112) (r0 : 0 ≤ r) (r1 : r ≤ 112) (a0 : 0 ≤ a) (a1 : a ≤ 226) (b0 : 0 ≤ b) (b1 : b ≤ 226) (k0 : 0 ≤ k) (k1 : k ≤ 226) (l0 : 0 ≤ l) (l1 : l ≤ 226) :
    Calls Try.prog 61 #[.agg #[.int .i64 c, .int .i64 r], .agg #[.int .i64 a, .int .i64 b], .agg #[.int .i64 k, .int .i64 l]] w fun e w' => e = .returned (.agg #[.int .i64 (backI a k r c), .int .i64 (backI b l r c), .int .i64 c, .int .i64 r]) ∧ Below w.heap.size w w' := by
  obtain ⟨W0, hW0⟩ : ∃ W, Hid (((((w.alloc (.cells #[.int .i64 c, .int .i64 r] 64)).alloc (.cells #[.int .i64 a, .int .i64 b] 80)).alloc (.cells #[.int .i64 k, .int .i64 l] 80)).alloc (.cells #[.int .i64 0, .int .i64 0, .int .i64 0, .int .i64 0] 76)) = W) := ⟨_, Lib.hid rfl⟩
  have HB : Hid (Below w.heap.size w W0) := Lib.hid (by rw [← hW0.out]; exact ((((Below.refl _ _).alloc (Nat.le_refl _) _).alloc (by simp only [World.size_alloc]; omega) _).alloc (by simp only [World.size_alloc]; omega) _).alloc (by simp only [World.size_alloc]; omega) _)
  have z_0 : w.heap.size + 4 ≤ W0.heap.size := by rw [← hW0.out]; simp only [World.size_alloc]; omega
  have HX_an : Hid (Bx W0 (w.heap.size) #[.int .i64 c, .int .i64 r] 64) := Lib.hid (by rw [← hW0.out]; have := Bx.new w #[.int .i64 c, .int .i64 r] 64; exact (((this.alloc _).alloc _).alloc _))
  have HX_base : Hid (Bx W0 (w.heap.size + 1) #[.int .i64 a, .int .i64 b] 80) := Lib.hid (by rw [← hW0.out]; have := Bx.new (w.alloc (.cells #[.int .i64 c, .int .i64 r] 64)) #[.int .i64 a, .int .i64 b] 80; simp only [World.size_alloc] at this; exact ((this.alloc _).alloc _))
  have HX_key : Hid (Bx W0 (w.heap.size + 2) #[.int .i64 k, .int .i64 l] 80) := Lib.hid (by rw [← hW0.out]; have := Bx.new ((w.alloc (.cells #[.int .i64 c, .int .i64 r] 64)).alloc (.cells #[.int .i64 a, .int .i64 b] 80)) #[.int .i64 k, .int .i64 l] 80; simp only [World.size_alloc] at this; exact (this.alloc _))
  have HX_R : Hid (Bx W0 (w.heap.size + 3) #[.int .i64 0, .int .i64 0, .int .i64 0, .int .i64 0] 76) := Lib.hid (by rw [← hW0.out]; have := Bx.new (((w.alloc (.cells #[.int .i64 c, .int .i64 r] 64)).alloc (.cells #[.int .i64 a, .int .i64 b] 80)).alloc (.cells #[.int .i64 k, .int .i64 l] 80)) #[.int .i64 0, .int .i64 0, .int .i64 0, .int .i64 0] 76; simp only [World.size_alloc] at this; exact this)
  go_enter Try.func61, Try.ntmps61
  go_wp2
  rw [hW0.out]
  clear hW0
  have hb := HB.out
  have hx_an := HX_an.out
  have hx_base := HX_base.out
  have hx_key := HX_key.out
  have hx_R := HX_R.out
  have hc_an_0 : W0.cell? ⟨w.heap.size, 0, none⟩ = some (.int .i64 c) := hx_an.cell 0
  have hc_an_1 : W0.cell? ⟨w.heap.size, 1, none⟩ = some (.int .i64 r) := hx_an.cell 1
  have hc_base_0 : W0.cell? ⟨(w.heap.size + 1), 0, none⟩ = some (.int .i64 a) := hx_base.cell 0
  have hc_base_1 : W0.cell? ⟨(w.heap.size + 1), 1, none⟩ = some (.int .i64 b) := hx_base.cell 1
  have hc_key_0 : W0.cell? ⟨(w.heap.size + 2), 0, none⟩ = some (.int .i64 k) := hx_key.cell 0
  have hc_key_1 : W0.cell? ⟨(w.heap.size + 2), 1, none⟩ = some (.int .i64 l) := hx_key.cell 1
  have stq0 : True := trivial
  go_region_held3 (fun w' => Below w.heap.size w w' ∧ w'.cell? ⟨w.heap.size, 0, none⟩ = some (.int .i64 c) ∧ w'.cell? ⟨w.heap.size, 1, none⟩ = some (.int .i64 r) ∧ w'.cell? ⟨(w.heap.size + 1), 0, none⟩ = some (.int .i64 a) ∧ w'.cell? ⟨(w.heap.size + 1), 1, none⟩ = some (.int .i64 b) ∧ w'.cell? ⟨(w.heap.size + 2), 0, none⟩ = some (.int .i64 k) ∧ w'.cell? ⟨(w.heap.size + 2), 1, none⟩ = some (.int .i64 l))
    (first | exact ⟨hb, hc_an_0, hc_an_1, hc_base_0, hc_base_1, hc_key_0, hc_key_1⟩ | exact ⟨hb.drew, hc_an_0, hc_an_1, hc_base_0, hc_base_1, hc_key_0, hc_key_1⟩ | exact hst)
    (first
      | (have stq1 := stq0
         clear stq0
         go_at_call 92
         refine (i_an_com c r a k _ c0 c1 r0 r1 a0 a1 k0 k1).mono ?_
         rintro e v1 ⟨rfl, hb_⟩
         have zv1 := hb_.size
         have hbk : Below W0.heap.size W0 v1 := (by first | exact hb_ | exact nb14 hb_)
         replace hb : Below w.heap.size w v1 := hb.trans (hbk.mono hb.size)
         replace hx_an : Bx v1 w.heap.size #[.int .i64 c, .int .i64 r] 64 := hx_an.below hbk hx_an.lt
         replace hx_base : Bx v1 (w.heap.size + 1) #[.int .i64 a, .int .i64 b] 80 := hx_base.below hbk hx_base.lt
         replace hx_key : Bx v1 (w.heap.size + 2) #[.int .i64 k, .int .i64 l] 80 := hx_key.below hbk hx_key.lt
         replace hx_R : Bx v1 (w.heap.size + 3) #[.int .i64 0, .int .i64 0, .int .i64 0, .int .i64 0] 76 := hx_R.below hbk hx_R.lt
         replace hc_an_0 : v1.cell? ⟨w.heap.size, 0, none⟩ = some (.int .i64 c) := hx_an.cell 0
         replace hc_an_1 : v1.cell? ⟨w.heap.size, 1, none⟩ = some (.int .i64 r) := hx_an.cell 1
         replace hc_base_0 : v1.cell? ⟨(w.heap.size + 1), 0, none⟩ = some (.int .i64 a) := hx_base.cell 0
         replace hc_base_1 : v1.cell? ⟨(w.heap.size + 1), 1, none⟩ = some (.int .i64 b) := hx_base.cell 1
         replace hc_key_0 : v1.cell? ⟨(w.heap.size + 2), 0, none⟩ = some (.int .i64 k) := hx_key.cell 0
         replace hc_key_1 : v1.cell? ⟨(w.heap.size + 2), 1, none⟩ = some (.int .i64 l) := hx_key.cell 1
         clear hb_ hbk)
      | (have stq2 := stq1
         clear stq1
         go_at_call 92
         refine (i_an_com c r b l _ c0 c1 r0 r1 b0 b1 l0 l1).mono ?_
         rintro e v2 ⟨rfl, hb_⟩
         have zv2 := hb_.size
         have hbk : Below v1.heap.size v1 v2 := (by first | exact hb_ | exact nb14 hb_)
         replace hb : Below w.heap.size w v2 := hb.trans (hbk.mono hb.size)
         replace hx_an : Bx v2 w.heap.size #[.int .i64 c, .int .i64 r] 64 := hx_an.below hbk hx_an.lt
         replace hx_base : Bx v2 (w.heap.size + 1) #[.int .i64 a, .int .i64 b] 80 := hx_base.below hbk hx_base.lt
         replace hx_key : Bx v2 (w.heap.size + 2) #[.int .i64 k, .int .i64 l] 80 := hx_key.below hbk hx_key.lt
         replace hx_R : Bx v2 (w.heap.size + 3) #[.int .i64 0, .int .i64 0, .int .i64 0, .int .i64 0] 76 := hx_R.below hbk hx_R.lt
         replace hc_an_0 : v2.cell? ⟨w.heap.size, 0, none⟩ = some (.int .i64 c) := hx_an.cell 0
         replace hc_an_1 : v2.cell? ⟨w.heap.size, 1, none⟩ = some (.int .i64 r) := hx_an.cell 1
         replace hc_base_0 : v2.cell? ⟨(w.heap.size + 1), 0, none⟩ = some (.int .i64 a) := hx_base.cell 0
         replace hc_base_1 : v2.cell? ⟨(w.heap.size + 1), 1, none⟩ = some (.int .i64 b) := hx_base.cell 1
         replace hc_key_0 : v2.cell? ⟨(w.heap.size + 2), 0, none⟩ = some (.int .i64 k) := hx_key.cell 0
         replace hc_key_1 : v2.cell? ⟨(w.heap.size + 2), 1, none⟩ = some (.int .i64 l) := hx_key.cell 1
         clear hb_ hbk
         have zdr14 : W0.drew.heap.size = W0.heap.size := rfl
         have hr0 : v2.cell? ⟨(w.heap.size + 3), 0, none⟩ = some (.int .i64 0) := hx_R.cell 0
         have hf0 : v2.frozen? ⟨(w.heap.size + 3), 0, none⟩ = false := hx_R.free 0
         have hr1 : v2.cell? ⟨(w.heap.size + 3), 1, none⟩ = some (.int .i64 0) := hx_R.cell 1
         have hf1 : v2.frozen? ⟨(w.heap.size + 3), 1, none⟩ = false := hx_R.free 1
         have hr2 : v2.cell? ⟨(w.heap.size + 3), 2, none⟩ = some (.int .i64 0) := hx_R.cell 2
         have hf2 : v2.frozen? ⟨(w.heap.size + 3), 2, none⟩ = false := hx_R.free 2
         have hr3 : v2.cell? ⟨(w.heap.size + 3), 3, none⟩ = some (.int .i64 0) := hx_R.cell 3
         have hf3 : v2.frozen? ⟨(w.heap.size + 3), 3, none⟩ = false := hx_R.free 3
         have hkR : Kept (w.heap.size + 3) ((w.heap.size + 3) + 1) v2 ((((v2.setCell ⟨(w.heap.size + 3), 0, none⟩ (.int .i64 (backI a k r c))).setCell ⟨(w.heap.size + 3), 1, none⟩ (.int .i64 (backI b l r c))).setCell ⟨(w.heap.size + 3), 2, none⟩ (.int .i64 c)).setCell ⟨(w.heap.size + 3), 3, none⟩ (.int .i64 r)) := st14_4 _ _ _ _ _ _
         have hst : Below w.heap.size w ((((v2.setCell ⟨(w.heap.size + 3), 0, none⟩ (.int .i64 (backI a k r c))).setCell ⟨(w.heap.size + 3), 1, none⟩ (.int .i64 (backI b l r c))).setCell ⟨(w.heap.size + 3), 2, none⟩ (.int .i64 c)).setCell ⟨(w.heap.size + 3), 3, none⟩ (.int .i64 r)) ∧ ((((v2.setCell ⟨(w.heap.size + 3), 0, none⟩ (.int .i64 (backI a k r c))).setCell ⟨(w.heap.size + 3), 1, none⟩ (.int .i64 (backI b l r c))).setCell ⟨(w.heap.size + 3), 2, none⟩ (.int .i64 c)).setCell ⟨(w.heap.size + 3), 3, none⟩ (.int .i64 r)).cell? ⟨w.heap.size, 0, none⟩ = some (.int .i64 c) ∧ ((((v2.setCell ⟨(w.heap.size + 3), 0, none⟩ (.int .i64 (backI a k r c))).setCell ⟨(w.heap.size + 3), 1, none⟩ (.int .i64 (backI b l r c))).setCell ⟨(w.heap.size + 3), 2, none⟩ (.int .i64 c)).setCell ⟨(w.heap.size + 3), 3, none⟩ (.int .i64 r)).cell? ⟨w.heap.size, 1, none⟩ = some (.int .i64 r) ∧ ((((v2.setCell ⟨(w.heap.size + 3), 0, none⟩ (.int .i64 (backI a k r c))).setCell ⟨(w.heap.size + 3), 1, none⟩ (.int .i64 (backI b l r c))).setCell ⟨(w.heap.size + 3), 2, none⟩ (.int .i64 c)).setCell ⟨(w.heap.size + 3), 3, none⟩ (.int .i64 r)).cell? ⟨(w.heap.size + 1), 0, none⟩ = some (.int .i64 a) ∧ ((((v2.setCell ⟨(w.heap.size + 3), 0, none⟩ (.int .i64 (backI a k r c))).setCell ⟨(w.heap.size + 3), 1, none⟩ (.int .i64 (backI b l r c))).setCell ⟨(w.heap.size + 3), 2, none⟩ (.int .i64 c)).setCell ⟨(w.heap.size + 3), 3, none⟩ (.int .i64 r)).cell? ⟨(w.heap.size + 1), 1, none⟩ = some (.int .i64 b) ∧ ((((v2.setCell ⟨(w.heap.size + 3), 0, none⟩ (.int .i64 (backI a k r c))).setCell ⟨(w.heap.size + 3), 1, none⟩ (.int .i64 (backI b l r c))).setCell ⟨(w.heap.size + 3), 2, none⟩ (.int .i64 c)).setCell ⟨(w.heap.size + 3), 3, none⟩ (.int .i64 r)).cell? ⟨(w.heap.size + 2), 0, none⟩ = some (.int .i64 k) ∧ ((((v2.setCell ⟨(w.heap.size + 3), 0, none⟩ (.int .i64 (backI a k r c))).setCell ⟨(w.heap.size + 3), 1, none⟩ (.int .i64 (backI b l r c))).setCell ⟨(w.heap.size + 3), 2, none⟩ (.int .i64 c)).setCell ⟨(w.heap.size + 3), 3, none⟩ (.int .i64 r)).cell? ⟨(w.heap.size + 2), 1, none⟩ = some (.int .i64 l) := ⟨hb.trans ((hkR.to_below (by omega)).mono (by omega)), (hx_an.kept hkR (by omega)).cell 0, (hx_an.kept hkR (by omega)).cell 1, (hx_base.kept hkR (by omega)).cell 0, (hx_base.kept hkR (by omega)).cell 1, (hx_key.kept hkR (by omega)).cell 0, (hx_key.kept hkR (by omega)).cell 1⟩))
  all_goals (
    go_wp2
    exact bodyPost_ret (v := .agg #[.int .i64 (backI a k r c), .int .i64 (backI b l r c), .int .i64 c, .int .i64 r]) (resTw1 rfl rfl (((((hx_R).set 0 (.int .i64 (backI a k r c))).set 1 (.int .i64 (backI b l r c))).set 2 (.int .i64 c)).set 3 (.int .i64 r))) rfl ⟨rfl, (by first | exact ((((hb).setCell (p := ⟨(w.heap.size + 3), 0, none⟩) (by first | exact Nat.le_refl _ | (simp only; omega)) _).setCell (p := ⟨(w.heap.size + 3), 1, none⟩) (by first | exact Nat.le_refl _ | (simp only; omega)) _).setCell (p := ⟨(w.heap.size + 3), 2, none⟩) (by first | exact Nat.le_refl _ | (simp only; omega)) _).setCell (p := ⟨(w.heap.size + 3), 3, none⟩) (by first | exact Nat.le_refl _ | (simp only; omega)) _ | exact (((((hb).setCell (p := ⟨(w.heap.size + 3), 0, none⟩) (by first | exact Nat.le_refl _ | (simp only; omega)) _).setCell (p := ⟨(w.heap.size + 3), 1, none⟩) (by first | exact Nat.le_refl _ | (simp only; omega)) _).setCell (p := ⟨(w.heap.size + 3), 2, none⟩) (by first | exact Nat.le_refl _ | (simp only; omega)) _).setCell (p := ⟨(w.heap.size + 3), 3, none⟩) (by first | exact Nat.le_refl _ | (simp only; omega)) _).drew)⟩)

end Go.Proofs.Ytdhakbpimbadgaa
