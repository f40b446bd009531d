/- Chapter 7: a power out of the map (powers.of); a commitment. -/
import Derived.Test.YtjpjmlcmaombnaaMap7
import Derived.Test.YtjpjmlcmaombnaaWalk5e
import Derived.Maps.OwnOps
namespace Go.Proofs.Ytjpjmlcmaombnaa
open Go.RowKit
set_option maxRecDepth 100000

theorem keptA (lo mid : Nat) (w : World) (o : Obj) : Kept lo mid w (w.alloc o) := ⟨rfl, rfl, rfl, by simp, fun k hk _ => Below.heap_alloc w o k hk⟩
theorem zeroEl (w : World) : (zeroValue 85).run Try.prog w = .ok (.int .i64 0) w := by kernel_rfl
theorem powI_bd (g e : Int) : 0 ≤ powI g e 227 ∧ powI g e 227 ≤ 226 := ⟨powI_lo _ _ _, powI_hi _ _ _ (by omega)⟩
theorem mul_bd2 (a b : Int) (h1 : 0 ≤ a) (h2 : a ≤ 226) (h3 : 0 ≤ b) (h4 : b ≤ 226) : 0 ≤ a * b ∧ a * b ≤ 51076 :=
  ⟨Int.mul_nonneg h1 h3, by have := Int.mul_le_mul h2 h4 h3 (by omega : (0:Int) ≤ 226); omega⟩
set_option maxHeartbeats 400000 in
theorem i_el_power (g e : Int) (w : World) (hg : 0 ≤ g) (hg2 : g ≤ 226) (he : 0 ≤ e) (he2 : e ≤ 112) :
    Calls Try.prog 103 #[.int .i64 g, .int .i64 e] w fun x w' => x = .returned (.int .i64 (powI g e 227)) ∧ w = w' := by
  go_enter Try.func103, Try.ntmps103
  go_wp2_with (first | (go_at_call 115; refine (i_powerModulo _ _ _ _ (by omega) (by omega) (by omega) (by omega) (by omega) (by omega)).mono ?_; rintro e w' ⟨rfl, rfl⟩) | go_in)
  go_ret
  exact ⟨rfl, rfl⟩
set_option maxHeartbeats 400000 in
theorem i_el_times (g h : Int) (w : World) (hg : 0 ≤ g) (hg2 : g ≤ 226) (hh : 0 ≤ h) (hh2 : h ≤ 226) :
    Calls Try.prog 113 #[.int .i64 g, .int .i64 h] w fun x w' => x = .returned (.int .i64 (g * h % 227)) ∧ w = w' := by
  obtain ⟨m0, m1⟩ := mul_bd2 g h hg hg2 hh hh2
  go_enter Try.func113, Try.ntmps113
  go_wp2
  go_ret
  exact ⟨rfl, rfl⟩

set_option maxHeartbeats 1000000 in
theorem i_of (b : Nat) (g e : Int) (w : World) (h : PM w b) (hg : 0 ≤ g) (hg2 : g ≤ 226) (he : 0 ≤ e) (he2 : e ≤ 112) :
    Calls Try.prog 90 #[.map (some b), .agg #[.int .i64 g, .int .i64 e]] w fun x w' => x = .returned (.int .i64 (powI g e 227)) ∧ PM w' b ∧ Kept b (b + 1) w w' := by
  have HA := Lib.hid (h.alloc (.cells #[.int .i64 g, .int .i64 e] 99))
  have HL := Lib.hid h.lt
  have HK := Lib.hid (keptA b (b + 1) w (.cells #[.int .i64 g, .int .i64 e] 99))
  clear h
  obtain ⟨D, HO, HP⟩ : ∃ D : DataW Unit, Hid ((w.alloc (.cells #[.int .i64 g, .int .i64 e] 99)).ownsMap Try.prog 99 (plainElem Try.prog 85) b 25651 D) ∧ Hid (Pows D) := by
    obtain ⟨D, h1, h2⟩ := HA.out; exact ⟨D, Lib.hid h1, Lib.hid h2⟩
  have HKEY := Lib.hid (key_pow g e ⟨hg, hg2⟩ ⟨he, he2⟩)
  obtain ⟨p0, p1⟩ := powI_bd g e
  cases hh : Maps.has D (kL g e)
  · have HH := Lib.hid hh
    go_enter Try.func90, Try.ntmps90
    go_wp2_with (at_lookup
                 refine wpList_lookup_own_ok_int _ rfl _ _ 87 rfl 99 85 .i64 key_law Try.underlying87 Try.underlying85 (zeroEl _) b 25651 D rfl HO.out _ _ rfl HKEY.out ?_
                 intro c hat hwc
                 clear hat hwc)
    refine (i_el_power g e _ hg hg2 he he2).mono ?_
    rintro e1 w1 ⟨rfl, rfl⟩
    go_wp2_with (at_mapUpdate
                 refine wpList_mapUpdate_own _ rfl _ _ _ 87 rfl 99 85 key_law Try.underlying87 _ b 25651 D rfl HO.out (by unfold maxLen; omega) _ _ _ rfl rfl HKEY.out _ [] (plainElem_int Try.underlying85 (WalkArith.wf_i64 (by omega))) ?_
                 intro w2 hown2 hgrow2
                 have HM2 : Hid (PM w2 b) := Lib.hid (PM.of hown2 (HP.out.put ⟨hg, hg2⟩ ⟨he, he2⟩))
                 have HK2 : Hid (Kept b (b + 1) w w2) := Lib.hid (HK.out.trans ⟨hgrow2.os, hgrow2.tape, hgrow2.output, hgrow2.size, fun k hk hn => hgrow2.block k hk (fun e => hn (by injection e with e; omega))⟩)
                 clear hown2 hgrow2)
    go_ret
    exact ⟨rfl, HM2.out, HK2.out⟩
  · have HV := Lib.hid (HP.out.at ⟨hg, hg2⟩ ⟨he, he2⟩ hh (.lit (.int .i64 0)))
    go_enter Try.func90, Try.ntmps90
    go_wp2_with (at_lookup
                 refine wpList_lookup_own_ok_int _ rfl _ _ 87 rfl 99 85 .i64 key_law Try.underlying87 Try.underlying85 (zeroEl _) b 25651 D rfl HO.out _ _ rfl HKEY.out ?_
                 intro c hat hwc
                 have HC : Hid (c = powI g e 227) := Lib.hid (by have h9 := HV.out.symm.trans hat; injection h9 with h9; injection h9 with _ h9; exact h9.symm)
                 clear hat hwc)
    go_ret
    exact ⟨ret_i HC.out, HA.out, HK.out⟩

theorem Kept.cellAt {lo mid : Nat} {w w' : World} (h : Kept lo mid w w') {p : Addr} (hp : p.block < w.heap.size) (hn : ¬ (lo ≤ p.block ∧ p.block < mid)) : w'.cell? p = w.cell? p := World.cell?_of_block (h.block _ hp hn)
theorem at_new {b g : Nat} {w W w1 : World} {u v : Value} (hk1 : Kept b (b + 1) W w1) (hb : b < g) (hlt : g < W.heap.size) (hc0 : W.cell? ⟨g, 0, none⟩ = some u) (hc1 : W.cell? ⟨g, 1, none⟩ = some v) (hk : Kept b (b + 1) w W) :
    Kept b (b + 1) w w1 ∧ g < w1.heap.size ∧ w1.cell? ⟨g, 0, none⟩ = some u ∧ w1.cell? ⟨g, 1, none⟩ = some v :=
  ⟨hk.trans hk1, Nat.lt_of_lt_of_le hlt hk1.size, (hk1.cellAt (p := ⟨g, 0, none⟩) hlt (by simp; omega)).trans hc0, (hk1.cellAt (p := ⟨g, 1, none⟩) hlt (by simp; omega)).trans hc1⟩

set_option maxHeartbeats 2000000 in
theorem i_commitment (b : Nat) (a bl : Int) (w : World) (h : PM w b) (ha : 0 ≤ a ∧ a ≤ 112) (hbl : 0 ≤ bl ∧ bl ≤ 112) :
    Calls Try.prog 77 #[.map (some b), .agg #[.int .i64 a, .int .i64 bl]] w fun x w' => x = .returned (.int .i64 (powI 4 a 227 * powI 9 bl 227 % 227)) ∧ PM w' b ∧ Kept b (b + 1) w w' := by
  have HM := Lib.hid (h.alloc (.cells #[.int .i64 a, .int .i64 bl] 91))
  have HL := Lib.hid h.lt
  have HK := Lib.hid (keptA b (b + 1) w (.cells #[.int .i64 a, .int .i64 bl] 91))
  obtain ⟨p0, p1⟩ := powI_bd 4 a
  obtain ⟨q0, q1⟩ := powI_bd 9 bl
  have HB : Hid ((w.alloc (.cells #[.int .i64 a, .int .i64 bl] 91)).heap[w.heap.size]? = some (.cells #[.int .i64 a, .int .i64 bl] 91 (0, 0))) := Lib.hid (heap_alloc_new _ _)
  clear h
  obtain ⟨W, hW⟩ : ∃ W, Hid (w.alloc (.cells #[.int .i64 a, .int .i64 bl] 91) = W) := ⟨_, Lib.hid rfl⟩
  go_enter Try.func77, Try.ntmps77
  go_wp2
  rw [hW.out] at HM HK HB ⊢
  have hlt : w.heap.size < W.heap.size := (Array.getElem?_eq_some_iff.1 HB.out).1
  have hp := HM.out
  have hk := HK.out
  have hc0 : W.cell? ⟨w.heap.size, 0, none⟩ = some (.int .i64 a) := by rw [cell_of_row W _ 0 _ _ _ HB.out]; rfl
  have hc1 : W.cell? ⟨w.heap.size, 1, none⟩ = some (.int .i64 bl) := by rw [cell_of_row W _ 1 _ _ _ HB.out]; rfl
  have hs : PM W b ∧ Kept b (b + 1) w W ∧ w.heap.size < W.heap.size ∧ W.cell? ⟨w.heap.size, 0, none⟩ = some (.int .i64 a) ∧ W.cell? ⟨w.heap.size, 1, none⟩ = some (.int .i64 bl) := ⟨hp, hk, hlt, hc0, hc1⟩
  go_region_held3 (fun w' => PM w' b ∧ Kept b (b + 1) w w' ∧ w.heap.size < w'.heap.size ∧ w'.cell? ⟨w.heap.size, 0, none⟩ = some (.int .i64 a) ∧ w'.cell? ⟨w.heap.size, 1, none⟩ = some (.int .i64 bl))
    (first | exact ⟨hp, hk, hlt, hc0, hc1⟩ | exact ⟨hp.drew, hk.drew, hlt, hc0, hc1⟩)
    (first
      | (go_at_call 90
         (first | (with_reducible refine (i_of b 4 a _ (by first | exact hp | exact hp.drew) (by omega) (by omega) ha.1 ha.2).mono ?_) | (with_reducible refine (i_of b 9 bl _ (by first | exact hp | exact hp.drew) (by omega) (by omega) hbl.1 hbl.2).mono ?_))
         rintro e w1 ⟨rfl, hp1, hk1⟩
         have hn := at_new hk1 HL.out hlt hc0 hc1 (hk := by first | exact hk | exact hk.drew)
         clear hp hk hlt hc0 hc1
         obtain ⟨hk, hlt, hc0, hc1⟩ := hn
         have hp := hp1
         clear hp1 hk1)
      | (go_at_call 113; with_reducible refine (i_el_times _ _ _ (by omega) (by omega) (by omega) (by omega)).mono ?_; rintro e w1 ⟨rfl, rfl⟩))
  all_goals (
    go_wp2
    go_ret
    exact ⟨rfl, hp, hk⟩)
end Go.Proofs.Ytjpjmlcmaombnaa
