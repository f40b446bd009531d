/- Chapter 4: the program's closures and its iterator over shares. -/
import Derived.Test.YticmbnfmpjjohaaWalk5e
import Derived.RangeFuncNested
import Derived.RangeFuncCalls
import Derived.RangeFuncLeaves
import Derived.Shelf.Abstract
import Derived.OwnWalkIn
import Derived.TacticsInMore
import Derived.LoopNIn
import Derived.LoopIn
namespace Go.Proofs.Yticmbnfmpjjohaa
open Go.RowKit Go.Shelf
set_option maxRecDepth 100000
attribute [local go_sem] Oper.semAt_some

set_option maxHeartbeats 1000000 in
theorem i_scl1 (b1 b2 : Nat) (A : Option Addr) (n c k : Nat) (ps : List (Int × Int)) (b : Int) (w : World) (hb1 : w.cell? ⟨b1, 0, none⟩ = some (.slice A n c)) (hb2 : w.cell? ⟨b2, 0, none⟩ = some (.int .i64 b))
    (hl1 : b1 < w.heap.size) (hl2 : b2 < w.heap.size) (H : Rd w w.heap.size 2 A n (cP ps)) (hp : numK ps n = true) (b0 : 0 ≤ b) (b112 : b ≤ 112) (hk : k < n) :
    Calls Try.prog 91 #[.int .i64 k, .pointer (some ⟨b1, 0, none⟩), .pointer (some ⟨b2, 0, none⟩)] w fun e w' => e = .returned (.agg #[.int .i64 (px ps k), .int .i64 (py ps k * b % 113)]) ∧ Below w.heap.size w w' := by
  obtain ⟨a, x, y, rfl, hab, hx0, hy0, HP⟩ := H.ptAt hk
  have HXY := pxy HP.out
  have hat := numK_at hp hk
  rw [HXY.1, HXY.2] at hat
  rw [HXY.1, HXY.2]
  obtain ⟨y0, y1⟩ := hat.2
  have HB := (Below.refl w.heap.size w).alloc (Nat.le_refl _) (.cells #[.int .i64 0, .int .i64 0] 33)
  have hc1 := (HB.cell (p := ⟨b1, 0, none⟩) hl1).trans hb1
  have hc2 := (HB.cell (p := ⟨b2, 0, none⟩) hl2).trans hb2
  have hx := (HB.cell (p := a.add (k * 2)) (by rw [add_block]; exact hab)).trans hx0
  have hy := (HB.cell (p := ⟨(a.add (k * 2)).block, (a.add (k * 2)).off + 1, none⟩) (by rw [add_block]; exact hab)).trans hy0
  have HBB := Lib.hid HB
  have hn0 : (w.alloc (.cells #[.int .i64 0, .int .i64 0] 33)).cell? ⟨w.heap.size, 0, none⟩ = some (.int .i64 0) := World.cell?_alloc_new w _ _ 0
  have hn1 : (w.alloc (.cells #[.int .i64 0, .int .i64 0] 33)).cell? ⟨w.heap.size, 1, none⟩ = some (.int .i64 0) := World.cell?_alloc_new w _ _ 1
  have hf := fun j => (Ow.new w #[.int .i64 0, .int .i64 0] 33 2 1 rfl).free (by omega) j
  clear HP HXY hat hb1 hb2 hx0 hy0 H hp HB
  have i0 : (0 : Int) ≤ (k : Int) := by omega
  have i1 : (k : Int) < (n : Int) := by omega
  go_enter Try.func91, Try.ntmps91
  go_wp2
  have hf0 := hf 0
  have hf1 := hf 1
  clear hf
  obtain ⟨W1, hW1⟩ : ∃ W1, w.alloc (.cells #[.int .i64 0, .int .i64 0] 33) = W1 := ⟨_, rfl⟩
  rw [hW1] at hc1 hc2 hx hy hn0 hn1 hf0 hf1 HBB ⊢
  clear hW1
  go_still_tail 12, (by kernel_rfl)
  still_call (same_ (i_times _ _ _ y0 y1 b0 b112))
  repeat still_step
  refine wpStill_nil ?_
  change wpList _ _ _ _ _ W1.drew
  go_wp2
  refine bodyPost_ret (v := .agg #[.int .i64 x, .int .i64 (y * b % 113)]) (by simp [results, Try.results91, go_sem, hn0, hn1]) rfl ⟨rfl, ?_⟩
  exact below_drew ((HBB.out.setCell (p := ⟨w.heap.size, 0, none⟩) (Nat.le_refl _) _).setCell (p := ⟨w.heap.size, 1, none⟩) (Nat.le_refl _) _)

theorem i_shares (cnt : Nat) (fn : Fn) (bs lb : Array Value) (w : World) :
    Calls Try.prog 109 #[.int .i64 cnt, .func fn bs lb] w fun e w' => e = .returned (.func (.func 115) #[] #[.pointer (some ⟨w.heap.size, 0, none⟩), .pointer (some ⟨w.heap.size + 1, 0, none⟩)]) ∧ w' = (w.alloc (.cells #[.int .i64 cnt] 3)).alloc (.cells #[.func fn bs lb] 98) := by
  go_enter Try.func109, Try.ntmps109
  go_wp2
  go_ret
  exact ⟨rfl, rfl⟩

/-- what a round keeps -/
def KpS (n₀ Bs : Nat) (sv : Value) (W W' : World) : Prop := Below n₀ W W' ∧ (Boxed W Bs 98 sv → Boxed W' Bs 98 sv)
theorem KpS_t {n₀ Bs : Nat} {sv : Value} {A B C : World} (h : KpS n₀ Bs sv A B) (k : KpS n₀ Bs sv B C) : KpS n₀ Bs sv A C := ⟨h.1.trans k.1, fun x => k.2 (h.2 x)⟩
theorem KpS_b {n₀ Bs : Nat} {sv : Value} {w : World} (hn : n₀ ≤ w.heap.size) (W : World) (l : Nat) (o o' : Obj) (hl : w.heap.size ≤ l) (h : W.heap[l]? = some o) (hc : o.isCells = false) (hw : o.isWalk = false) : KpS n₀ Bs sv W (W.putObj l o') :=
  ⟨belowK_b hn W l o o' hl h hc hw, fun hb => by
    by_cases e : Bs = l
    · subst e; rw [show W.heap[Bs]? = _ from hb] at h; cases h; cases hc
    · exact (World.putObj_heap_other (fun e' => e e')).trans hb⟩
def uptoF (f : Nat → Int × Int) (k : Nat) : List (Int × Int) := (List.range k).map f
theorem uptoF_succ (f : Nat → Int × Int) (k : Nat) : uptoF f (k + 1) = uptoF f k ++ [f k] := by simp [uptoF, List.range_succ]
theorem uptoF_length (f : Nat → Int × Int) (k : Nat) : (uptoF f k).length = k := by simp [uptoF]
theorem grown_of_below {w w' : World} (h : Below w.heap.size w w') : w.grownBy w' none := ⟨h.os, h.tape, h.output, h.size, fun k hk _ => h.block k hk⟩
def encP (p : Int × Int) : Array Value := #[.agg #[.int .i64 p.1, .int .i64 p.2]]
end Go.Proofs.Yticmbnfmpjjohaa
