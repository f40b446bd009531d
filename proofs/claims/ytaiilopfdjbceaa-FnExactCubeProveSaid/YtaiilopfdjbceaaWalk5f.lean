/- Chapter 4: the program's closures and its iterator over shares. -/
import Derived.Test.YtaiilopfdjbceaaWalk5e
import Derived.RangeFuncNested
import Derived.RangeFuncCalls
import Derived.RangeFuncLeaves
import Derived.Shelf.Abstract
import Derived.OwnWalkIn
import Derived.TacticsInMore
import Derived.LoopNIn
import Derived.LoopIn
namespace Go.Proofs.Ytaiilopfdjbceaa
open Go.RowKit Go.Shelf
theorem i_shares (cnt : Nat) (fn : Fn) (bs lb : Array Value) (w : World) :
    Calls Try.prog 92 #[.int .i64 cnt, .func fn bs lb] w fun e w' => e = .returned (.func (.func 109) #[] #[.pointer (some ⟨w.heap.size, 0, none⟩), .pointer (some ⟨w.heap.size + 1, 0, none⟩)]) ∧ w' = (w.alloc (.cells #[.int .i64 cnt] 3)).alloc (.cells #[.func fn bs lb] 71) := by
  go_enter Try.func92, Try.ntmps92
  go_wp2
  go_ret
  exact ⟨rfl, rfl⟩

/-- what a round keeps -/
def KpS (n₀ Bs : Nat) (sv : Value) (W W' : World) : Prop := Below n₀ W W' ∧ (Boxed W Bs 71 sv → Boxed W' Bs 71 sv)
theorem KpS_t {n₀ Bs : Nat} {sv : Value} {A B C : World} (h : KpS n₀ Bs sv A B) (k : KpS n₀ Bs sv B C) : KpS n₀ Bs sv A C := ⟨h.1.trans k.1, fun x => k.2 (h.2 x)⟩
theorem KpS_b {n₀ Bs : Nat} {sv : Value} {w : World} (hn : n₀ ≤ w.heap.size) (W : World) (l : Nat) (o o' : Obj) (hl : w.heap.size ≤ l) (h : W.heap[l]? = some o) (hc : o.isCells = false) (hw : o.isWalk = false) : KpS n₀ Bs sv W (W.putObj l o') :=
  ⟨belowK_b hn W l o o' hl h hc hw, fun hb => by
    by_cases e : Bs = l
    · subst e; rw [show W.heap[Bs]? = _ from hb] at h; cases h; cases hc
    · exact (World.putObj_heap_other (fun e' => e e')).trans hb⟩
def uptoF (f : Nat → Int × Int) (k : Nat) : List (Int × Int) := (List.range k).map f
theorem uptoF_succ (f : Nat → Int × Int) (k : Nat) : uptoF f (k + 1) = uptoF f k ++ [f k] := by simp [uptoF, List.range_succ]
theorem uptoF_length (f : Nat → Int × Int) (k : Nat) : (uptoF f k).length = k := by simp [uptoF]
theorem grown_of_below {w w' : World} (h : Below w.heap.size w w') : w.grownBy w' none := ⟨h.os, h.tape, h.output, h.size, fun k hk _ => h.block k hk⟩
def encP (p : Int × Int) : Array Value := #[.agg #[.int .i64 p.1, .int .i64 p.2]]
end Go.Proofs.Ytaiilopfdjbceaa
