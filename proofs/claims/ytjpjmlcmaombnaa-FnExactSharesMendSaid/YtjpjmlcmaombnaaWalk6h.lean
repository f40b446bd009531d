/- Chapter 5: the deferred closure that recovers. -/
import Derived.Test.YtjpjmlcmaombnaaWalk6g
import Derived.Recover
import Derived.Laws.Pointers
namespace Go.Proofs.Ytjpjmlcmaombnaa
open Go.RowKit
set_option maxRecDepth 100000

theorem ta_yes (v : Value) (W : World) : (Instr.typeAssert (.iface 76 v) 20 76 true).run Try.prog W = .ok (.tuple #[v, .bool true]) W := by kernel_rfl
theorem ta_nil (W : World) : (Instr.typeAssert .nilIface 20 76 true).run Try.prog W = .ok (.tuple #[.agg #[.int .i64 0, .slice none 0 0], .bool false]) W := by kernel_rfl
set_option maxHeartbeats 1000000 in
theorem catch_yes (gp gq : Nat) (a a0 : Int) (As : Option Addr) (ns ks : Nat) (s0 : Value) (b0 : Bool) (older : List PanicEntry) (w : World) (hp : w.heap[gp]? = some (.cells #[.int .i64 a0, s0] 76 (0, 0))) (hq : w.heap[gq]? = some (.cells #[.bool b0] 4 (0, 0))) (hne : gp ≠ gq) :
    CallsD Try.prog 107 #[.pointer (some ⟨gp, 0, none⟩), .pointer (some ⟨gq, 0, none⟩)] (.panicking ({ v := .iface 76 (.agg #[.int .i64 a, .slice As ns ks]), recovered := false } :: older)) w fun e u' w' =>
      e = .returned (.tuple #[]) ∧ u' = .panicking ({ v := .iface 76 (.agg #[.int .i64 a, .slice As ns ks]), recovered := true } :: older) ∧ w' = ((w.setCell ⟨gp, 0, none⟩ (.int .i64 a)).setCell ⟨gp, 1, none⟩ (.slice As ns ks)).setCell ⟨gq, 0, none⟩ (.bool true) := by
  refine callsD_of_wpS Try.func107 rfl fun c₀ cs hu => ?_
  have hc0 : w.cell? ⟨gp, 0, none⟩ = some (.int .i64 a0) := by rw [cell_of_row w _ 0 _ _ _ hp]; rfl
  have hd0 : w.cell? ⟨gq, 0, none⟩ = some (.bool b0) := by rw [cell_of_row w _ 0 _ _ _ hq]; rfl
  have hf0 : w.frozen? ⟨gp, 0, none⟩ = false := by simp [World.frozen?, hp]
  have hp1 := heap_setCell_same w gp 0 _ _ (.int .i64 a) hp
  obtain ⟨w1, hw1⟩ : ∃ w1, w1 = w.setCell ⟨gp, 0, none⟩ (.int .i64 a) := ⟨_, rfl⟩
  rw [← hw1] at hp1
  have hc1 : w1.cell? ⟨gp, 1, none⟩ = some s0 := by rw [cell_of_row w1 _ 1 _ _ _ hp1]; simp
  have hf1 : w1.frozen? ⟨gp, 1, none⟩ = false := by simp [World.frozen?, hp1]
  have hq1 : w1.heap[gq]? = some (.cells #[.bool b0] 4 (0, 0)) := by rw [hw1, Below.heap_setCell _ _ _ _ (by simpa using hne.symm)]; exact hq
  obtain ⟨w2, hw2⟩ : ∃ w2, w2 = w1.setCell ⟨gp, 1, none⟩ (.slice As ns ks) := ⟨_, rfl⟩
  have hq2 : w2.heap[gq]? = some (.cells #[.bool b0] 4 (0, 0)) := by rw [hw2, Below.heap_setCell _ _ _ _ (by simpa using hne.symm)]; exact hq1
  have hd2 : w2.cell? ⟨gq, 0, none⟩ = some (.bool b0) := by rw [cell_of_row w2 _ 0 _ _ _ hq2]; rfl
  have hf2 : w2.frozen? ⟨gq, 0, none⟩ = false := by simp [World.frozen?, hq2]
  apply wpS_region
  simp [wpOpsS, go_sem, recoverD, hu, Try.ntmps107, ta_yes, hc0, hf0, ← hw1, hc1, hf1, ← hw2, hd2, hf2, bodyPostS, results, Try.results107]
set_option maxHeartbeats 1000000 in
theorem catch_no (gp gq : Nat) (a0 : Int) (s0 : Value) (b0 : Bool) (w : World) (hp : w.heap[gp]? = some (.cells #[.int .i64 a0, s0] 76 (0, 0))) (hq : w.heap[gq]? = some (.cells #[.bool b0] 4 (0, 0))) (hne : gp ≠ gq) :
    CallsD Try.prog 107 #[.pointer (some ⟨gp, 0, none⟩), .pointer (some ⟨gq, 0, none⟩)] .returning w fun e u' w' =>
      e = .returned (.tuple #[]) ∧ u' = .returning ∧ w' = ((w.setCell ⟨gp, 0, none⟩ (.int .i64 0)).setCell ⟨gp, 1, none⟩ (.slice none 0 0)).setCell ⟨gq, 0, none⟩ (.bool false) := by
  refine callsD_of_wpS Try.func107 rfl fun c₀ cs hu => ?_
  have hc0 : w.cell? ⟨gp, 0, none⟩ = some (.int .i64 a0) := by rw [cell_of_row w _ 0 _ _ _ hp]; rfl
  have hf0 : w.frozen? ⟨gp, 0, none⟩ = false := by simp [World.frozen?, hp]
  have hp1 := heap_setCell_same w gp 0 _ _ (.int .i64 0) hp
  obtain ⟨w1, hw1⟩ : ∃ w1, w1 = w.setCell ⟨gp, 0, none⟩ (.int .i64 0) := ⟨_, rfl⟩
  rw [← hw1] at hp1
  have hc1 : w1.cell? ⟨gp, 1, none⟩ = some s0 := by rw [cell_of_row w1 _ 1 _ _ _ hp1]; simp
  have hf1 : w1.frozen? ⟨gp, 1, none⟩ = false := by simp [World.frozen?, hp1]
  have hq1 : w1.heap[gq]? = some (.cells #[.bool b0] 4 (0, 0)) := by rw [hw1, Below.heap_setCell _ _ _ _ (by simpa using hne.symm)]; exact hq
  obtain ⟨w2, hw2⟩ : ∃ w2, w2 = w1.setCell ⟨gp, 1, none⟩ (.slice none 0 0) := ⟨_, rfl⟩
  have hq2 : w2.heap[gq]? = some (.cells #[.bool b0] 4 (0, 0)) := by rw [hw2, Below.heap_setCell _ _ _ _ (by simpa using hne.symm)]; exact hq1
  have hd2 : w2.cell? ⟨gq, 0, none⟩ = some (.bool b0) := by rw [cell_of_row w2 _ 0 _ _ _ hq2]; rfl
  have hf2 : w2.frozen? ⟨gq, 0, none⟩ = false := by simp [World.frozen?, hq2]
  apply wpS_region
  simp [wpOpsS, go_sem, recoverD, hu, Try.ntmps107, ta_nil, hc0, hf0, ← hw1, hc1, hf1, ← hw2, hd2, hf2, bodyPostS, results, Try.results107]
  cases c₀
  simp_all

theorem three_set {w : World} {gp gq : Nat} {x0 y0 z0 : Value} (x y z : Value) {t u : TypeId} (hp : w.heap[gp]? = some (.cells #[x0, y0] t (0, 0))) (hq : w.heap[gq]? = some (.cells #[z0] u (0, 0))) (hlt : gp < gq) :
    (((w.setCell ⟨gp, 0, none⟩ x).setCell ⟨gp, 1, none⟩ y).setCell ⟨gq, 0, none⟩ z).heap[gp]? = some (.cells #[x, y] t (0, 0)) ∧ (((w.setCell ⟨gp, 0, none⟩ x).setCell ⟨gp, 1, none⟩ y).setCell ⟨gq, 0, none⟩ z).heap[gq]? = some (.cells #[z] u (0, 0)) ∧
    Below gp w (((w.setCell ⟨gp, 0, none⟩ x).setCell ⟨gp, 1, none⟩ y).setCell ⟨gq, 0, none⟩ z) ∧ (((w.setCell ⟨gp, 0, none⟩ x).setCell ⟨gp, 1, none⟩ y).setCell ⟨gq, 0, none⟩ z).heap.size = w.heap.size := by
  have h1 := heap_setCell_same w gp 0 _ _ x hp
  have h2 := heap_setCell_same (w.setCell ⟨gp, 0, none⟩ x) gp 1 _ _ y h1
  have g1 : (w.setCell ⟨gp, 0, none⟩ x).heap[gq]? = some (.cells #[z0] u (0, 0)) := by rw [Below.heap_setCell _ _ _ _ (by simp; omega)]; exact hq
  have g2 : ((w.setCell ⟨gp, 0, none⟩ x).setCell ⟨gp, 1, none⟩ y).heap[gq]? = some (.cells #[z0] u (0, 0)) := by rw [Below.heap_setCell _ _ _ _ (by simp; omega)]; exact g1
  have h3 := heap_setCell_same ((w.setCell ⟨gp, 0, none⟩ x).setCell ⟨gp, 1, none⟩ y) gq 0 _ _ z g2
  refine ⟨?_, by simpa using h3, (((Below.refl gp w).setCell (p := ⟨gp, 0, none⟩) (Nat.le_refl _) x).setCell (p := ⟨gp, 1, none⟩) (Nat.le_refl _) y).setCell (p := ⟨gq, 0, none⟩) (by simp; omega) z, by simp [World.setCell]⟩
  rw [Below.heap_setCell _ _ _ _ (by simp; omega)]
  simpa using h2
theorem res_first {fn : Func} {t u : Tmp} {tmps : Array Value} {w : World} {g h : Nat} {a b : Value} {c : Bool} (hr : fn.results = #[.cell t 76, .cell u 4]) (ht : tmps.getD t undef = .pointer (some ⟨g, 0, none⟩)) (hu : tmps.getD u undef = .pointer (some ⟨h, 0, none⟩))
    (hb : w.heap[g]? = some (.cells #[a, b] 76 (0, 0))) (hc : w.heap[h]? = some (.cells #[.bool c] 4 (0, 0))) :
    (results fn tmps).run Try.prog w = .ok (.tuple #[.agg #[a, b], .bool c]) w := by
  have he0 : w.cell? ⟨g, 0, none⟩ = some a := by rw [cell_of_row w _ 0 _ _ _ hb]; rfl
  have he1 : w.cell? ⟨g, 1, none⟩ = some b := by rw [cell_of_row w _ 1 _ _ _ hb]; rfl
  have hd : w.cell? ⟨h, 0, none⟩ = some (.bool c) := by rw [cell_of_row w _ 0 _ _ _ hc]; rfl
  have ht2 : tmps[t]?.getD undef = .pointer (some ⟨g, 0, none⟩) := by rw [← ht]; simp
  have hu2 : tmps[u]?.getD undef = .pointer (some ⟨h, 0, none⟩) := by rw [← hu]; simp
  simp [results, hr, ht2, hu2, asAddr, go_sem, hd, he0, he1]
/-- what first comes to -/
def FirstP (o : Option (List Int)) (d : List Pt) (lo : Nat) (e : Ending) (w' : World) : Prop := match o with
  | some p => ∃ v, e = .returned (.tuple #[.agg #[.int .i64 (atI p 0), v], .bool true]) ∧ OwIntS w' lo w'.heap.size v (wrL p d)
  | none => e = .returned (.tuple #[.agg #[.int .i64 0, .slice none 0 0], .bool false])
set_option maxHeartbeats 2000000 in
theorem i_first (A : Option Addr) (n c b1 : Nat) (z most : Int) (d : List Pt) (w : World) (hz : z = (b1 : Int)) (hdn : d.length = n) (hn : n ≤ 7) (hc : n ≤ c) (hd : GL d) (hb1 : b1 ≤ 7) (h : Rd w w.heap.size 2 A n (cP d)) :
    Calls Try.prog 67 #[mdV A n c z most] w fun e w' => FirstP (sF d b1 most d []) d w.heap.size e w' ∧ Below w.heap.size w w' := by
  subst hz
  have hmf : ∀ (fn : Fn) (first cap : Array Value) (w : World), (Instr.makeFunc fn first cap).run Try.prog w = .ok (.func fn first cap) w := fun _ _ _ _ => rfl
  obtain ⟨W, hW⟩ : ∃ W, Hid ((((w.alloc (.cells #[.slice A n c, .int .i64 b1, .int .i64 most] 79)).alloc (.cells #[.int .i64 0, .slice none 0 0] 76)).alloc (.cells #[.bool false] 4)) = W) := ⟨_, Lib.hid rfl⟩
  have HB0 : Hid (Below w.heap.size w W) := Lib.hid (by rw [← hW.out]; exact (((Below.refl _ _).alloc (Nat.le_refl _) _).alloc (by simp) _).alloc (by simp; omega) _)
  have HP0 : Hid (W.heap[w.heap.size + 1]? = some (.cells #[.int .i64 0, .slice none 0 0] 76 (0, 0))) := Lib.hid (by
    rw [← hW.out, Below.heap_alloc _ _ _ (by simp)]
    have := heap_alloc_new (w.alloc (.cells #[.slice A n c, .int .i64 b1, .int .i64 most] 79)) (.cells #[.int .i64 0, .slice none 0 0] 76)
    simpa using this)
  have HQ0 : Hid (W.heap[w.heap.size + 1 + 1]? = some (.cells #[.bool false] 4 (0, 0))) := Lib.hid (by
    rw [← hW.out]
    have := heap_alloc_new ((w.alloc (.cells #[.slice A n c, .int .i64 b1, .int .i64 most] 79)).alloc (.cells #[.int .i64 0, .slice none 0 0] 76)) (.cells #[.bool false] 4)
    simpa using this)
  have HZ0 : Hid (W.heap.size = w.heap.size + 1 + 1 + 1) := Lib.hid (by rw [← hW.out]; simp)
  have HR0 : Hid (Rd W w.heap.size 2 A n (cP d)) := Lib.hid (h.below HB0.out)
  have HD := Lib.hid hd
  have HDN := Lib.hid hdn
  clear h hd hdn
  go_enter_defers Try.func67, Try.ntmps67
  go_wp2_with fail
  rw [hW.out]
  refine (i_try A n c b1 w.heap.size w.heap.size most d HDN.out hn HD.out (Nat.le_refl _) n d [] none A 0 0 c W (by simpa using HD.out) rfl (Nat.zero_le _) hb1 HDN.out hn hc HB0.out.size (World.ownsRow_nil _ _ _ _) HR0.out HR0.out).mono ?_
  rintro e w2 ⟨ht, hg, _⟩
  have HP2 : Hid (w2.heap[w.heap.size + 1]? = some (.cells #[.int .i64 0, .slice none 0 0] 76 (0, 0))) := Lib.hid ((hg.block _ (Array.getElem?_eq_some_iff.1 HP0.out).1 (by simp [Value.ownBlock])).trans HP0.out)
  have HQ2 : Hid (w2.heap[w.heap.size + 1 + 1]? = some (.cells #[.bool false] 4 (0, 0))) := Lib.hid ((hg.block _ (Array.getElem?_eq_some_iff.1 HQ0.out).1 (by simp [Value.ownBlock])).trans HQ0.out)
  have HB2 : Hid (Below w.heap.size w w2) := Lib.hid (HB0.out.trans ⟨hg.os, hg.tape, hg.output, hg.size, fun k hk => hg.block k (by have := HZ0.out; omega) (by simp [Value.ownBlock])⟩)
  have HZ2 : Hid (w.heap.size ≤ W.heap.size ∧ w.heap.size + 1 + 1 < w2.heap.size) := Lib.hid ⟨HB0.out.size, (Array.getElem?_eq_some_iff.1 HQ2.out).1⟩
  clear hg
  cases hs : sF d b1 most d [] with
  | none =>
    rw [hs] at ht
    obtain rfl : e = .returned (.tuple #[]) := ht
    have hp := HP2.out
    have hq := HQ2.out
    have hc0 : w2.cell? ⟨w.heap.size + 1, 0, none⟩ = some (.int .i64 0) := by rw [cell_of_row w2 _ 0 _ _ _ hp]; rfl
    have hc1 : w2.cell? ⟨w.heap.size + 1, 1, none⟩ = some (.slice none 0 0) := by rw [cell_of_row w2 _ 1 _ _ _ hp]; rfl
    have hd0 : w2.cell? ⟨w.heap.size + 1 + 1, 0, none⟩ = some (.bool false) := by rw [cell_of_row w2 _ 0 _ _ _ hq]; rfl
    have hf0 : w2.frozen? ⟨w.heap.size + 1, 0, none⟩ = false := by simp [World.frozen?, hp]
    have hf1 : w2.frozen? ⟨w.heap.size + 1, 1, none⟩ = false := by simp [World.frozen?, hp]
    have hf2 : w2.frozen? ⟨w.heap.size + 1 + 1, 0, none⟩ = false := by simp [World.frozen?, hq]
    have HS := Lib.hid hs
    clear hs hp hq
    have H3 := three_set (.int .i64 0) (.slice none 0 0) (.bool false) HP2.out HQ2.out (by omega)
    obtain ⟨W3, hW3⟩ : ∃ W3, Hid (((w2.setCell ⟨w.heap.size + 1, 0, none⟩ (.int .i64 0)).setCell ⟨w.heap.size + 1, 1, none⟩ (.slice none 0 0)).setCell ⟨w.heap.size + 1 + 1, 0, none⟩ (.bool false) = W3) := ⟨_, Lib.hid rfl⟩
    rw [hW3.out] at H3
    have H3H := Lib.hid H3
    clear H3
    go_wp2
    rw [hW3.out]
    refine leaves_cons (f := 107) (args := #[.pointer (some ⟨w.heap.size + 1, 0, none⟩), .pointer (some ⟨w.heap.size + 1 + 1, 0, none⟩)]) (by simp) (by simp [go_sem]) ?_
    refine (catch_no (w.heap.size + 1) (w.heap.size + 1 + 1) 0 (.slice none 0 0) false W3 H3H.out.1 H3H.out.2.1 (by omega)).mono ?_
    rintro e u' w4 ⟨rfl, rfl, rfl⟩
    obtain ⟨k1, k2, k3, k4⟩ := three_set (.int .i64 0) (.slice none 0 0) (.bool false) H3H.out.1 H3H.out.2.1 (by omega)
    refine ⟨_, res_first rfl rfl rfl k1 k2, by rw [HS.out]; rfl, ?_⟩
    exact HB2.out.trans ((H3H.out.2.2.1.mono (by omega)).trans (k3.mono (by omega)))
  | some p =>
    rw [hs] at ht
    obtain ⟨v, rfl, hov⟩ := ht
    obtain ⟨As, ns, ks, rfl, hns, hnk, ho⟩ := hov.open
    have HOV := Lib.hid hov
    clear hov ho hns hnk
    go_wp2
    refine leaves_cons (f := 107) (args := #[.pointer (some ⟨w.heap.size + 1, 0, none⟩), .pointer (some ⟨w.heap.size + 1 + 1, 0, none⟩)]) (by simp) (by simp [go_sem]) ?_
    refine (catch_yes (w.heap.size + 1) (w.heap.size + 1 + 1) (atI p 0) 0 As ns ks (.slice none 0 0) false [] w2 HP2.out HQ2.out (by omega)).mono ?_
    rintro e u' w4 ⟨rfl, rfl, rfl⟩
    obtain ⟨k1, k2, k3, k4⟩ := three_set (.int .i64 (atI p 0)) (.slice As ns ks) (.bool true) HP2.out HQ2.out (by omega)
    have HK : OwIntS (((w2.setCell ⟨w.heap.size + 1, 0, none⟩ (.int .i64 (atI p 0))).setCell ⟨w.heap.size + 1, 1, none⟩ (.slice As ns ks)).setCell ⟨w.heap.size + 1 + 1, 0, none⟩ (.bool true)) w.heap.size (((w2.setCell ⟨w.heap.size + 1, 0, none⟩ (.int .i64 (atI p 0))).setCell ⟨w.heap.size + 1, 1, none⟩ (.slice As ns ks)).setCell ⟨w.heap.size + 1 + 1, 0, none⟩ (.bool true)).heap.size (.slice As ns ks) (wrL p d) := by
      rw [k4]
      refine (HOV.out.kept (lo' := w.heap.size + 1) (mid := w.heap.size + 1 + 1 + 1) ?_ (Nat.le_refl _) (.inl (by have := HZ0.out; omega))).widen HZ2.out.1 (Nat.le_refl _)
      exact (((Kept.refl _ _ w2).setCell (p := ⟨w.heap.size + 1, 0, none⟩) (Nat.le_refl _) (by simp <;> omega) _).setCell (p := ⟨w.heap.size + 1, 1, none⟩) (Nat.le_refl _) (by simp <;> omega) _).setCell (p := ⟨w.heap.size + 1 + 1, 0, none⟩) (by simp) (by simp) _
    refine ⟨_, res_first rfl rfl rfl k1 k2, ?_, HB2.out.trans (k3.mono (by omega))⟩
    rw [hs]
    exact ⟨_, rfl, HK⟩
end Go.Proofs.Ytjpjmlcmaombnaa
