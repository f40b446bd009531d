import Derived.Test.YtbabkaofhhaneaaWalk5e
import Derived.RangeFuncNested
import Derived.RangeFuncCalls
import Derived.RangeFuncLeaves
import Derived.Shelf.Abstract
import Derived.OwnWalkIn
import Derived.TacticsInMore
import Derived.LoopNIn
import Derived.LoopIn
import Derived.Test.YtbabkaofhhaneaaWalk3a
import Derived.Test.YtbabkaofhhaneaaWalk2a
import Derived.Test.YtbabkaofhhaneaaFaceB
import Derived.Test.YtbabkaofhhaneaaWalk1
import Derived.Test.YtbabkaofhhaneaaFaceI
import Derived.Test.YtbabkaofhhaneaaPts
import Derived.StillTailTactics
import Derived.Test.YtbabkaofhhaneaaSS2
import Derived.Test.YtbabkaofhhaneaaWalk2b
import Derived.Test.YtbabkaofhhaneaaAppend
import Derived.Test.YtbabkaofhhaneaaDraw14
import Derived.Deep.RegionHeld3
import Derived.Test.YtbabkaofhhaneaaDraw2b
import Derived.Test.YtbabkaofhhaneaaLaw
/- Chapter 4: the program's closures and its iterator over shares. -/
namespace Go.Proofs.Ytbabkaofhhaneaa
open Go.RowKit Go.Shelf
theorem i_shares (cnt : Nat) (fn : Fn) (bs lb : Array Value) (w : World) :
    Calls Try.prog 98 #[.int .i64 cnt, .func fn bs lb] w fun e w' => e = .returned (.func (.func 104) #[] #[.pointer (some ⟨w.heap.size, 0, none⟩), .pointer (some ⟨w.heap.size + 1, 0, none⟩)]) ∧ w' = (w.alloc (.cells #[.int .i64 cnt] 3)).alloc (.cells #[.func fn bs lb] 101) := by
  go_enter Try.func98, Try.ntmps98
  go_wp2
  go_ret
  exact ⟨rfl, rfl⟩

/-- what a round keeps -/
def KpS (n₀ Bs : Nat) (sv : Value) (W W' : World) : Prop := Below n₀ W W' ∧ (Boxed W Bs 101 sv → Boxed W' Bs 101 sv)
theorem KpS_t {n₀ Bs : Nat} {sv : Value} {A B C : World} (h : KpS n₀ Bs sv A B) (k : KpS n₀ Bs sv B C) : KpS n₀ Bs sv A C := ⟨h.1.trans k.1, fun x => k.2 (h.2 x)⟩
theorem KpS_b {n₀ Bs : Nat} {sv : Value} {w : World} (hn : n₀ ≤ w.heap.size) (W : World) (l : Nat) (o o' : Obj) (hl : w.heap.size ≤ l) (h : W.heap[l]? = some o) (hc : o.isCells = false) (hw : o.isWalk = false) : KpS n₀ Bs sv W (W.putObj l o') :=
  ⟨belowK_b hn W l o o' hl h hc hw, fun hb => by
    by_cases e : Bs = l
    · subst e; rw [show W.heap[Bs]? = _ from hb] at h; cases h; cases hc
    · exact (World.putObj_heap_other (fun e' => e e')).trans hb⟩
def uptoF (f : Nat → Int × Int) (k : Nat) : List (Int × Int) := (List.range k).map f
theorem uptoF_succ (f : Nat → Int × Int) (k : Nat) : uptoF f (k + 1) = uptoF f k ++ [f k] := by simp [uptoF, List.range_succ]
theorem uptoF_length (f : Nat → Int × Int) (k : Nat) : (uptoF f k).length = k := by simp [uptoF]
theorem grown_of_below {w w' : World} (h : Below w.heap.size w w') : w.grownBy w' none := ⟨h.os, h.tape, h.output, h.size, fun k hk _ => h.block k hk⟩
def encP (p : Int × Int) : Array Value := #[.agg #[.int .i64 p.1, .int .i64 p.2]]
end Go.Proofs.Ytbabkaofhhaneaa

/- Chapter 4: the iterator and what lists it, over SharesScale's closure. -/
namespace Go.Proofs.Ytbabkaofhhaneaa
open Go.RowKit Go.Shelf
end Go.Proofs.Ytbabkaofhhaneaa

/- Chapter 4: the list of what an iterator over shares gives, over SharesScale's closure. -/
namespace Go.Proofs.Ytbabkaofhhaneaa
open Go.RowKit Go.Shelf
set_option maxRecDepth 100000
attribute [local go_sem] Oper.semAt_some

theorem run_make0 {P : Program} {t e : TypeId} {z : Value} {bytes size : Nat} (ht : P.underlying t = some (.slice e)) (hi : (P.info? e).map (fun i => (i.zero, i.size, i.bytes)) = some (some z, size, bytes))
    (n : Nat) (hb : bytes * n ≤ 281474976710656) (hn : n ≤ 9223372036854775807) (w : World) :
    (Instr.makeSlice t (.int .i64 0) (.int .i64 (n : Int))).run P w = .ok (.slice (some ⟨w.heap.size, 0, none⟩) 0 n) (w.alloc (.cells (madeCells z.cells (n * size)) e)) := by
  obtain ⟨i, hi, hz0, hz1, hz2⟩ := info_parts hi
  have hb' : (i.bytes : Int) * (n : Int) ≤ 281474976710656 := by
    have h : ((i.bytes * n : Nat) : Int) ≤ 281474976710656 := by rw [hz2]; omega
    rwa [Int.natCast_mul] at h
  have hr := run_make (P := P) w t e i z ht hi hz0 .i64 .i64 0 n (by omega) (by omega) hb' (by omega)
  simp only [Int.toNat_natCast, hz1] at hr
  exact hr
theorem own_make0 (w : World) (cs : Array Value) (e size n : Nat) (hs : cs.size = n * size) (hn : n ≤ maxLen) : (w.alloc (.cells cs e)).ownsRow w.heap.size e size (.slice (some ⟨w.heap.size, 0, none⟩) 0 n) 0 [] :=
  ⟨by simp, .inr ⟨w.heap.size, n, cs, rfl, Nat.le_refl _, heap_alloc_new _ _, Nat.zero_le _, hn, hs, by simp⟩⟩
theorem cell_two_new (w : World) (x y : Value) (t : TypeId) : ∀ j u, [x, y][j]? = some u → (w.alloc (.cells #[x, y] t)).cell? ((⟨w.heap.size, 0, none⟩ : Addr).add j) = some u := by
  intro j u hj
  rw [addr_add, Nat.zero_add, World.cell?_alloc_new]
  simpa using hj
theorem madeCells_size (z : Array Value) (n : Nat) : (madeCells z n).size = n := by simp [madeCells]

end Go.Proofs.Ytbabkaofhhaneaa

/- Chapter 12: the iterator and the list over pointsFrom's closure (made from XWalk5g, XWalk5h by tools/gen5.py) -/
namespace Go.Proofs.Ytbabkaofhhaneaa
open Go.RowKit Go.Shelf
set_option maxRecDepth 100000
attribute [local go_sem] Oper.semAt_some

set_option maxHeartbeats 2000000 in
theorem i_it_pts (b1 b2 l Bn Bs n₀ cnt m : Nat) (hm : 1 ≤ m) (f : Nat → Int × Int) (w0 : World)
    (hS : ∀ W k, Below n₀ w0 W → k < cnt → Calls Try.prog 92 #[.int .i64 k, .pointer (some ⟨b1, 0, none⟩), .pointer (some ⟨b2, 0, none⟩)] W fun e W' => e = .returned (.agg #[.int .i64 (f k).1, .int .i64 (f k).2]) ∧ Below W.heap.size W W')
    (hcnt : cnt ≤ 1048576) (J Jx : List (Int × Int) → World → Prop) (W : World) (hJ : AbidesFrom W.heap.size J)
    (hY : ∀ pre x W1, J pre W1 → pre.length < cnt → YieldAt Fence.wide (m - 1) Try.prog l (encP x) W1 fun e W' =>
      (e = .returned (.bool true) ∧ J (pre ++ [x]) W' ∧ KpS n₀ Bs (.func (.func 92) #[] #[.pointer (some ⟨b1, 0, none⟩), .pointer (some ⟨b2, 0, none⟩)]) W1 W') ∨ (e = .returned (.bool false) ∧ Jx (pre ++ [x]) W'))
    (hBn : W.cell? ⟨Bn, 0, none⟩ = some (.int .i64 cnt)) (hBs : Boxed W Bs 101 (.func (.func 92) #[] #[.pointer (some ⟨b1, 0, none⟩), .pointer (some ⟨b2, 0, none⟩)])) (hn₀ : n₀ ≤ W.heap.size) (hbel : Below n₀ w0 W) (h0 : J [] W) :
    CallsIn Fence.wide m Try.prog 104 #[.func (.yield l) #[] #[], .pointer (some ⟨Bn, 0, none⟩), .pointer (some ⟨Bs, 0, none⟩)] W fun e W' => (∃ v, e = .returned v) ∧
      ((∃ ys, ys = uptoF f cnt ∧ J ys W') ∨ (∃ pre, True ∧ Jx pre W')) := by
  have hm1 : 1 ≤ m := hm
  refine callsIn_of_wp Try.func104 rfl trivial ?_ rfl
  simp only [Try.ntmps104, List.size_toArray, List.length_cons, List.length_nil, Nat.reduceAdd, Nat.reduceSub, Array.replicate_succ, Array.replicate_zero, List.push_toArray, List.append_toArray, List.nil_append, List.cons_append]
  gi_wp2
  gi_loopw [6] (fun i wr => ∃ k : Nat, k ≤ cnt ∧ i = .int .i64 k ∧ J (uptoF f k) wr ∧ Hid (Below n₀ w0 wr) ∧ Hid (n₀ ≤ wr.heap.size) ∧ Hid (Boxed wr Bs 101 (.func (.func 92) #[] #[.pointer (some ⟨b1, 0, none⟩), .pointer (some ⟨b2, 0, none⟩)])))
    (fun i _ => cnt - (intOf i).toNat)
  case atStart => exact ⟨0, Nat.zero_le _, rfl, h0, Lib.hid hbel, Lib.hid hn₀, Lib.hid hBs⟩
  case round =>
    obtain ⟨k, hk, rfl, hJs, HBL, HZ, HBS⟩ := hrel
    by_cases hlt : k < cnt
    · have hcs := HBS.out.cell
      have i0 : (0 : Int) ≤ (k : Int) := by omega
      have i1 : (k : Int) < (cnt : Int) := by omega
      gi_wp2_with (refine ⟨trivial, ?_⟩
                   gi_at_call 92
                   refine (callsIn_wide.2 (hS _ k HBL.out hlt)).mono ?_
                   rintro e W1 ⟨rfl, hb1⟩
                   have hJ1 := hJ _ _ _ none hJs (grown_of_below hb1) (fun r e => by cases e)
                   have HBS1 : Hid (Boxed W1 Bs 101 (.func (.func 92) #[] #[.pointer (some ⟨b1, 0, none⟩), .pointer (some ⟨b2, 0, none⟩)])) := Lib.hid (HBS.out.kept (grown_of_below hb1) (by simp))
                   have HBL1 : Hid (Below n₀ w0 W1) := Lib.hid (HBL.out.trans (hb1.mono HZ.out))
                   have HZ1 : Hid (n₀ ≤ W1.heap.size) := Lib.hid (Nat.le_trans HZ.out hb1.size)
                   obtain ⟨fn, tmps, assign, body, hy, hR⟩ := hY _ (f k) W1 hJ1 (by rw [uptoF_length]; exact hlt)
                   simp only [encP] at hy
                   clear hb1 HBL HZ HBS hJs hcs)
      refine hR.mono ?_
      rintro e W3 (⟨rfl, hJ3, hk3⟩ | ⟨rfl, hJx3⟩)
      · have HK3 := Lib.hid hk3
        clear hk3
        gi_wp2
        go_roundw
        case rel => exact ⟨k + 1, by omega, by go_num, by rw [uptoF_succ]; exact hJ3, Lib.hid (HBL1.out.trans HK3.out.1), Lib.hid (Nat.le_trans HZ1.out HK3.out.1.size), Lib.hid (HK3.out.2 HBS1.out)⟩
        case measure => simp [intOf] <;> omega
      · gi_wp2
        refine bodyPost_ret (results_none rfl _ _ _) rfl ?_
        exact ⟨⟨_, rfl⟩, .inr ⟨_, trivial, hJx3⟩⟩
    · obtain rfl : k = cnt := by omega
      gi_wp2
      go_end0
      exact ⟨⟨_, rfl⟩, .inl ⟨_, rfl, hJs⟩⟩
theorem stops_pts (b1 b2 Bn Bs n₀ cnt m : Nat) (hm : 1 ≤ m) (f : Nat → Int × Int) (w0 w : World)
    (hS : ∀ W k, Below n₀ w0 W → k < cnt → Calls Try.prog 92 #[.int .i64 k, .pointer (some ⟨b1, 0, none⟩), .pointer (some ⟨b2, 0, none⟩)] W fun e W' => e = .returned (.agg #[.int .i64 (f k).1, .int .i64 (f k).2]) ∧ Below W.heap.size W W')
    (hcnt : cnt ≤ 1048576) (hlt : Bn < w.heap.size) (hBn : w.cell? ⟨Bn, 0, none⟩ = some (.int .i64 cnt)) (hBs : Boxed w Bs 101 (.func (.func 92) #[] #[.pointer (some ⟨b1, 0, none⟩), .pointer (some ⟨b2, 0, none⟩)])) (hn₀ : n₀ ≤ w.heap.size) (hbel : Below n₀ w0 w) :
    SeqStopsK Fence.wide m Try.prog 104 #[.pointer (some ⟨Bn, 0, none⟩), .pointer (some ⟨Bs, 0, none⟩)] encP (KpS n₀ Bs (.func (.func 92) #[] #[.pointer (some ⟨b1, 0, none⟩), .pointer (some ⟨b2, 0, none⟩)])) (fun ys => ys = uptoF f cnt) (fun _ => True) cnt w := fun l J Jx W hW hJ _ hY h0 =>
  i_it_pts b1 b2 l Bn Bs n₀ cnt m hm f w0 hS hcnt J Jx W hJ hY ((hW.cell (p := ⟨Bn, 0, none⟩) hlt).trans hBn) ((hW.block Bs hBs.lt).trans hBs) (Nat.le_trans hn₀ hW.size) (hbel.trans (hW.mono hn₀)) h0

set_option maxHeartbeats 4000000 in
theorem i_listed_pts (b1 b2 cnt : Nat) (hcnt : cnt ≤ 1048576) (f : Nat → Int × Int) (w : World)
    (hS : ∀ W k, Below w.heap.size w W → k < cnt → Calls Try.prog 92 #[.int .i64 k, .pointer (some ⟨b1, 0, none⟩), .pointer (some ⟨b2, 0, none⟩)] W fun e W' => e = .returned (.agg #[.int .i64 (f k).1, .int .i64 (f k).2]) ∧ Below W.heap.size W W') :
    Calls Try.prog 82 #[.int .i64 cnt, .func (.func 92) #[] #[.pointer (some ⟨b1, 0, none⟩), .pointer (some ⟨b2, 0, none⟩)]] w fun e w' => ∃ g, e = .returned g ∧ OwPointS w' w.heap.size w'.heap.size g (uptoF f cnt) ∧ Below w.heap.size w w' := by
  refine (callsIn_wide (n := 9)).1 ?_
  obtain ⟨i0, hi, hz0, hz1, hz2⟩ := info_parts info_pt
  have hmk := fun W => run_make0 (P := Try.prog) Try.underlying48 info_pt cnt (by omega) (by omega) W
  have hcap : (madeCells (Value.agg #[.int .i64 0, .int .i64 0]).cells (cnt * 2)).size = cnt * 2 := madeCells_size _ _
  obtain ⟨cs, hcs⟩ : ∃ cs, madeCells (Value.agg #[.int .i64 0, .int .i64 0]).cells (cnt * 2) = cs := ⟨_, rfl⟩
  rw [hcs] at hmk hcap
  have HCAP := Lib.hid hcap
  clear hcs hcap
  have c0 : (0 : Int) ≤ (cnt : Int) := by omega
  refine callsIn_of_wp_marks Try.func82 rfl trivial ?_ rfl
  simp only [Try.ntmps82, List.size_toArray, List.length_cons, List.length_nil, Nat.reduceAdd, Nat.reduceSub, Array.replicate_succ, Array.replicate_zero, List.push_toArray, List.append_toArray, List.nil_append, List.cons_append]
  gi_wp2_with (refine ⟨trivial, ?_⟩
               gi_at_call 98
               refine (callsIn_wide.2 (i_shares _ _ _ _ _)).mono ?_
               rintro e w' ⟨rfl, rfl⟩)
  have bL := ((Boxed.new (w.alloc (.cells cs 78)) 48 (.slice (some ⟨w.heap.size, 0, none⟩) 0 cnt)).alloc (.cells #[.int .i64 cnt] 3)).alloc (.cells #[(.func (.func 92) #[] #[.pointer (some ⟨b1, 0, none⟩), .pointer (some ⟨b2, 0, none⟩)])] 101)
  have bN := (Boxed.new ((w.alloc (.cells cs 78)).alloc (.cells #[.slice (some ⟨w.heap.size, 0, none⟩) 0 cnt] 48)) 3 (.int .i64 cnt)).alloc (.cells #[(.func (.func 92) #[] #[.pointer (some ⟨b1, 0, none⟩), .pointer (some ⟨b2, 0, none⟩)])] 101)
  have bS := Boxed.new (((w.alloc (.cells cs 78)).alloc (.cells #[.slice (some ⟨w.heap.size, 0, none⟩) 0 cnt] 48)).alloc (.cells #[.int .i64 cnt] 3)) 101 (.func (.func 92) #[] #[.pointer (some ⟨b1, 0, none⟩), .pointer (some ⟨b2, 0, none⟩)])
  have hrow := (((own_make0 w cs 78 2 cnt HCAP.out (by unfold maxLen; omega)).alloc (.cells #[.slice (some ⟨w.heap.size, 0, none⟩) 0 cnt] 48)).alloc (.cells #[.int .i64 cnt] 3)).alloc (.cells #[(.func (.func 92) #[] #[.pointer (some ⟨b1, 0, none⟩), .pointer (some ⟨b2, 0, none⟩)])] 101)
  simp only [World.size_alloc] at bL bN bS
  have hB0 := ((((Below.refl w.heap.size w).alloc (Nat.le_refl _) (.cells cs 78)).alloc (by simp) (.cells #[.slice (some ⟨w.heap.size, 0, none⟩) 0 cnt] 48)).alloc (by simp; omega) (.cells #[.int .i64 cnt] 3)).alloc (by simp; omega) (.cells #[(.func (.func 92) #[] #[.pointer (some ⟨b1, 0, none⟩), .pointer (some ⟨b2, 0, none⟩)])] 101)
  have hsz : ((((w.alloc (.cells cs 78)).alloc (.cells #[.slice (some ⟨w.heap.size, 0, none⟩) 0 cnt] 48)).alloc (.cells #[.int .i64 cnt] 3)).alloc (.cells #[(.func (.func 92) #[] #[.pointer (some ⟨b1, 0, none⟩), .pointer (some ⟨b2, 0, none⟩)])] 101)).heap.size = w.heap.size + 4 := by simp
  obtain ⟨W0, hW0⟩ : ∃ W0, (((w.alloc (.cells cs 78)).alloc (.cells #[.slice (some ⟨w.heap.size, 0, none⟩) 0 cnt] 48)).alloc (.cells #[.int .i64 cnt] 3)).alloc (.cells #[(.func (.func 92) #[] #[.pointer (some ⟨b1, 0, none⟩), .pointer (some ⟨b2, 0, none⟩)])] 101) = W0 := ⟨_, rfl⟩
  rw [hW0] at bL bN bS hrow hB0 hsz ⊢
  clear hW0 hmk
  refine wpIn_rangeFunc_ownH rfl (by decide) (gf := 104) (lb := #[.pointer (some ⟨w.heap.size + 1 + 1, 0, none⟩), .pointer (some ⟨w.heap.size + 1 + 1 + 1, 0, none⟩)]) rfl trivial (enters_of Try.func104 (by kernel_rfl) rfl)
    (stops_pts b1 b2 (w.heap.size + 1 + 1) (w.heap.size + 1 + 1 + 1) w.heap.size cnt (9 - 1) (by decide) f w W0 hS hcnt (by omega) bN.cell bS (by omega) hB0) KpS_t (KpS_b (by omega)) (Below.refl _ _) (fun _ => rfl)
    (fun pre W => ((∃ v, Boxed W (w.heap.size + 1) 48 v ∧ W.ownsRow w.heap.size 78 2 v pre.length (cP pre) ∧ True) ∧ Below w.heap.size w W))
    (fun _ _ _ => False)
    (OwnFrom.and (Own.from (holdsRow_own w.heap.size (w.heap.size + 1) 48 78 2 (fun (pre : List (Int × Int)) => pre.length) (fun pre => cP pre) (fun _ _ => True)) _) (ownFrom_below (Nat.le_refl _) (by omega)))
    (fun _ _ _ _ _ hs _ _ => hs)
    ⟨⟨_, bL, hrow, trivial⟩, hB0⟩
    (fun x a' W => ∃ Bx, w.heap.size ≤ Bx ∧ W.heap[Bx]? = some (.cells #[.int .i64 x.1, .int .i64 x.2] 78 (0, 0)) ∧ a' = { tmps := #[.int .i64 cnt, (.func (.func 92) #[] #[.pointer (some ⟨b1, 0, none⟩), .pointer (some ⟨b2, 0, none⟩)]), undef, undef, .slice none 0 0, .pointer (some ⟨w.heap.size + 1, 0, none⟩), .pointer (some ⟨Bx, 0, none⟩), .int .i64 cnt, .slice (some ⟨w.heap.size, 0, none⟩) 0 cnt, .int .i64 cnt, (.func (.func 92) #[] #[.pointer (some ⟨b1, 0, none⟩), .pointer (some ⟨b2, 0, none⟩)]), .func (.func 104) #[] #[.pointer (some ⟨w.heap.size + 1 + 1, 0, none⟩), .pointer (some ⟨w.heap.size + 1 + 1 + 1, 0, none⟩)], .agg #[.int .i64 x.1, .int .i64 x.2], undef, undef, undef, undef, undef], defers := [] })
    (fun x a' _ X Y row hs hg hr => by
      obtain ⟨Bx, h1, h2, h3⟩ := hs
      refine ⟨Bx, h1, (hg.block Bx (Array.getElem?_eq_some_iff.1 h2).1 (fun e => ?_)).trans h2, h3⟩
      obtain ⟨_, o, ho, hc⟩ := hr Bx e.symm
      rw [h2] at ho; cases ho; cases hc)
    ?assign ?body ?done ?stop
  case assign =>
    rintro l pre x W K ⟨⟨v, hv, hr, _⟩, hB⟩ hK
    simp only [encP]
    gi_wp2
    exact hK _ _ ((KeepsOthers.alloc _ _).from _) ⟨(Below.refl _ W).alloc hB.size _, fun h => h.alloc _⟩ ⟨⟨v, hv.alloc _, hr.alloc _, trivial⟩, hB.alloc hB.size _⟩ ⟨W.heap.size, hB.size, heap_alloc_new _ _, rfl⟩
  case body =>
    rintro l pre x a' W hl ⟨r, hr⟩ ⟨⟨v, hv, hrow, _⟩, hB⟩ ⟨Bx, hBx, bX, rfl⟩ hlt
    have cL := hv.cell
    have cX0 : W.cell? ⟨Bx, 0, none⟩ = some (.int .i64 x.1) := by rw [cell_of_row W Bx 0 _ _ _ bX]; rfl
    have cX1 : W.cell? ⟨Bx, 1, none⟩ = some (.int .i64 x.2) := by rw [cell_of_row W Bx 1 _ _ _ bX]; rfl
    gi_wp2_with (gi_at_builtin
                 refine wpListIn_append_own _ rfl _ _ 48 rfl w.heap.size 78 i0 _ 2 16 Try.underlying48 hi hz0 hz1 hz2 rfl (by decide) _ _ _ rfl (hrow.alloc _) ⟨W.heap.size, 0, none⟩ 1 1 [.int .i64 x.1, .int .i64 x.2] rfl rfl (cell_two_new _ _ _ _) (by simp [Value.oneCell']) (by unfold maxLen; omega) (by omega) (by have := hB.size; simp; omega) ?_
                 intro v' w1 hown' hgrow _
                 obtain ⟨g', cap', rfl⟩ := ownsRow_succ hown'
                 obtain ⟨hv1, hv2, hr2, hk2, hb2⟩ := hv.appended (by decide) hrow hB.size (by omega) hown' hgrow
                 have hc1 := hv1.cell
                 have hf1 := hv1.frozen
                 have hbs : Boxed W (w.heap.size + 1 + 1 + 1) 101 (.func (.func 92) #[] #[.pointer (some ⟨b1, 0, none⟩), .pointer (some ⟨b2, 0, none⟩)]) → Boxed (w1.setCell ⟨w.heap.size + 1, 0, none⟩ (.slice (some ⟨g', 0, none⟩) (pre.length + 1) cap')) (w.heap.size + 1 + 1 + 1) 101 (.func (.func 92) #[] #[.pointer (some ⟨b1, 0, none⟩), .pointer (some ⟨b2, 0, none⟩)]) := fun h =>
                   ((h.alloc _).kept hgrow (h.not_row (by decide) hrow)).other (by omega) _)
    exact ⟨hk2.from _, ⟨hb2, hbs⟩, ⟨⟨_, hv2, by rw [cP_append, List.length_append]; exact hr2, trivial⟩, hB.trans hb2⟩⟩
  case done =>
    rintro D ys W hD rfl ⟨⟨v, hv, hrow, _⟩, hB⟩ hK
    have cL := hv.cell
    gi_wp2
    refine ⟨by simp, .inl ⟨_, _, rfl, run_takeDeferred hK, ?_⟩⟩
    refine ⟨_, results_tmp rfl _ _ _, v, rfl, ?_, hB.trans (belowK_b (w := w) (Nat.le_refl _) W D _ _ (by omega) hK rfl rfl)⟩
    exact done_pts (ownsRow_putObj hrow _ hK rfl) (by rw [uptoF_length]; exact hcnt)
  case stop =>
    rintro D c pre W _ _ h _
    exact h.elim
end Go.Proofs.Ytbabkaofhhaneaa

/- Chapter 4: SharesOf in the model. -/
namespace Go.Proofs.Ytbabkaofhhaneaa
open Go.RowKit Go.Shelf
set_option maxRecDepth 100000

def shF (cs : List Int) (i : Nat) : Int × Int := ((i : Int) + 1, atI cs ((i : Int) + 1))
def ofB (s n : Int) (t : List Int) : Bool := numB s && (numsB t && (inB n 1 7 && decide ((t.length : Int) < n)))
def R_SharesOf_1 (s n : Int) (t : List Int) : Bool := ofB s n t
def R_SharesOf_0 (s n : Int) (t : List Int) : List (Int × Int) := if ofB s n t = true then uptoF (shF (s :: t)) n.toNat else []
theorem of_no {s n : Int} {t : List Int} (h : ofB s n t = false) : Hid (R_SharesOf_1 s n t = false ∧ R_SharesOf_0 s n t = []) := Lib.hid ⟨h, by unfold R_SharesOf_0; rw [h]; rfl⟩
theorem nums_cons {s : Int} {t : List Int} (h : 0 ≤ s ∧ s ≤ 112) (ht : Nums t) : Nums (s :: t) := fun j => by
  cases j with
  | zero => exact h
  | succ j => exact ht j
theorem lit_int (w : World) (s : Int) : (w.alloc (.cells #[.int .i64 s] 3)).ownsRow w.heap.size 3 1 (.slice (some ⟨w.heap.size, 0, none⟩) 1 1) 1 [.int .i64 s] :=
  ⟨rfl, .inr ⟨w.heap.size, 1, _, rfl, Nat.le_refl _, heap_alloc_new _ _, Nat.le_refl _, by unfold maxLen; omega, rfl, rfl⟩⟩
/-- another row is none of this type's blocks -/
theorem own_other {w : World} {B e t n s g : Nat} {v : Value} {xs : List Value} {cs : Array Value} (h : w.ownsRow B e s v n xs) (hte : e ≠ t) (hg : w.heap[g]? = some (.cells cs t (0, 0))) : v.ownBlock ≠ some g := by
  intro e1
  rcases h.2 with ⟨rfl, _⟩ | ⟨g', cap, cur, rfl, _, hh, _⟩
  · simp [Value.ownBlock] at e1
  · simp [Value.ownBlock] at e1
    subst e1
    rw [hg] at hh; injection hh with hh; injection hh with _ ht
    exact hte ht.symm

end Go.Proofs.Ytbabkaofhhaneaa

/- Whether an index lies in a list's length. -/
namespace Go.Proofs.Ytbabkaofhhaneaa
open Go.RowKit
set_option maxRecDepth 100000

set_option maxHeartbeats 1000000 in
theorem i_indexOk (i n : Int) (w : World) :
    Calls Try.prog 59 #[.int .i64 i, .int .i64 n] w fun e w' => e = .returned (.bool (inB i 0 (n - 1))) ∧ w = w' := by
  by_cases h1 : 0 ≤ i
  · by_cases h2 : i < n
    · have HF : Hid (inB i 0 (n - 1) = true) := Lib.hid (inB_t ⟨h1, by omega⟩)
      go_enter Try.func59, Try.ntmps59
      go_wp2
      go_ret
      exact ⟨ret_bool HF.out.symm, rfl⟩
    · have HF : Hid (inB i 0 (n - 1) = false) := Lib.hid (inB_f (by omega))
      go_enter Try.func59, Try.ntmps59
      go_wp2
      go_ret
      exact ⟨ret_bool HF.out.symm, rfl⟩
  · have HF : Hid (inB i 0 (n - 1) = false) := Lib.hid (inB_f (by omega))
    have q : i < 0 := by omega
    go_enter Try.func59, Try.ntmps59
    go_wp2
    go_ret
    exact ⟨ret_bool HF.out.symm, rfl⟩
end Go.Proofs.Ytbabkaofhhaneaa

/- Chapter 12: look-ups, the mathematics of both sides. No word of a program. -/
namespace Go.Proofs.Ytbabkaofhhaneaa
open Go.RowKit
set_option maxRecDepth 100000

def tabB (t : List Int) : Bool := inB t.length 1 16 && numsB t
def pairB (s : List Bool) (i : Int) : Bool := inB s.length 1 16 && inB i 0 (s.length - 1)
def R_PairAsk_2 (s : List Bool) (i : Int) : Bool := pairB s i
def R_PairAsk_0 (s : List Bool) (i : Int) : List Bool := if pairB s i = true then s else []
def R_PairAsk_1 (s : List Bool) (i : Int) : List Bool := if pairB s i = true then s.set i.toNat (!s.getD i.toNat false) else []
/-- the sum of the first k entries in a set -/
def setK (t : List Int) (s : List Bool) : Nat → Int
  | 0 => 0
  | k + 1 => if s.getD k false = true then (setK t s k + t.getD k 0) % 113 else setK t s k
def answB (t : List Int) (s : List Bool) : Bool := tabB t && decide (s.length = t.length)
def answV (t : List Int) (s : List Bool) : Int := if answB t s = true then setK t s t.length else 0
def ptakeB (s : List Bool) (a b i : Int) : Bool := pairB s i && (numB a && numB b)
def ptakeV (s : List Bool) (a b i : Int) : Int := if ptakeB s a b i = true then (if s.getD i.toNat false = true then (a - b) % 113 else (b - a) % 113) else 0
def maskB (i n : Int) (t : List Int) : Bool := inB i 0 15 && (inB n 1 20 && (decide (t.length ≤ 7) && numsB t))
/-- the values of a polynomial at 1, 2, .. -/
def vals (cs : List Int) (n : Nat) : List Int := (List.range n).map fun k : Nat => atI cs ((k : Int) + 1)
def R_ManyAsk_1 (i n : Int) (t : List Int) : Bool := maskB i n t
def R_ManyAsk_0 (i n : Int) (t : List Int) : List Int := if maskB i n t = true then vals (i :: t) n.toNat else []
/-- numbers as points, from a first number on -/
def ptsOf (f : Nat) (t : List Int) : List (Int × Int) := (List.range t.length).map fun i => (((f + i : Nat) : Int), t.getD i 0)
def mansB (t : List Int) (p : Int) : Bool := tabB t && numB p
def mansV (t : List Int) (p : Int) : Int := if mansB t p = true then atI (thrS (ptsOf 0 t) t.length t.length) p else 0
def mtakB (a : List Int) : Bool := inB a.length 1 20 && numsB a
def mtakV (a : List Int) : Int := if mtakB a = true then atI (thrS (ptsOf 1 a) a.length a.length) 0 else 0
def mexpB (i : Int) (d : List (Int × Int)) : Bool := inB i 0 15 && (decide (d.length ≤ 7) && shB d 112)
def R_ManyExplain_1 (i : Int) (d : List (Int × Int)) : Bool := mexpB i d
def R_ManyExplain_0 (i : Int) (d : List (Int × Int)) : List Int := if mexpB i d = true then expL i d else []

theorem setK_bd (t : List Int) (s : List Bool) (k : Nat) : 0 ≤ setK t s k ∧ setK t s k ≤ 112 := by
  induction k with
  | zero => exact ⟨by simp [setK], by simp [setK]⟩
  | succ k ih => unfold setK; split <;> omega
theorem vals_succ (cs : List Int) (n : Nat) : vals cs (n + 1) = vals cs n ++ [atI cs ((n : Int) + 1)] := by simp [vals, List.range_succ]
theorem vals_length (cs : List Int) (n : Nat) : (vals cs n).length = n := by simp [vals]
theorem vals_get (cs : List Int) (n k : Nat) (h : k < n) : (vals cs n).getD k 0 = atI cs ((k : Int) + 1) := by simp [vals, h]
theorem ptsOf_length (f : Nat) (t : List Int) : (ptsOf f t).length = t.length := by simp [ptsOf]
theorem px_ptsOf (f : Nat) (t : List Int) (i : Nat) (h : i < t.length) : px (ptsOf f t) i = ((f + i : Nat) : Int) := by simp [px, ptsOf, h]
theorem py_ptsOf (f : Nat) (t : List Int) (i : Nat) (h : i < t.length) : py (ptsOf f t) i = t.getD i 0 := by simp [py, ptsOf, h]
theorem ptsOf_good (f : Nat) (t : List Int) (hf : f + t.length ≤ 113) (ht : Nums t) : Good (ptsOf f t) t.length :=
  ⟨fun i hi => by rw [px_ptsOf f t i hi]; omega, fun i hi => by rw [py_ptsOf f t i hi]; exact ht i, fun i j hi hj hij => by rw [px_ptsOf f t i hi, px_ptsOf f t j hj]; omega⟩
/-- the first k of them -/
def ptsU (f : Nat) (t : List Int) (k : Nat) : List (Int × Int) := (List.range k).map fun i => (((f + i : Nat) : Int), t.getD i 0)
theorem ptsU_len (f : Nat) (t : List Int) : ptsU f t t.length = ptsOf f t := rfl
theorem ptsU_succ {f k : Nat} {t : List Int} {p x : Int} (hp : p = ((f + k : Nat) : Int)) (hx : x = t.getD k 0) : ptsU f t (k + 1) = ptsU f t k ++ [(p, x)] := by
  subst hp; subst hx; simp [ptsU, List.range_succ]
theorem uptoF_getD2 (f : Nat → Int × Int) {k i : Nat} (h : i < k) : (uptoF f k).getD i (0, 0) = f i := by simp [uptoF, h]
theorem uptoF_ptsOf (f : Nat) (t : List Int) : uptoF (fun i => (((f + i : Nat) : Int), t.getD i 0)) t.length = ptsOf f t := rfl
theorem okK_of2 {ps : List (Int × Int)} {n : Nat} (h : Good ps n) : okK ps n = true := by
  have go : ∀ k, k ≤ n → okK ps k = true := fun k => by
    induction k with
    | zero => intro _; rfl
    | succ k ih =>
      intro hk
      rw [okK_step, ih (by omega), (numB_iff _).2 (h.x0 k (by omega)), (numB_iff _).2 (h.y0 k (by omega))]
      have : seenB ps k (px ps k) = false := by
        apply Bool.eq_false_iff.2
        intro ht
        obtain ⟨i, hi, he⟩ := (seenB_iff ps k _).1 ht
        exact h.ne i k (by omega) (by omega) (by omega) he
      rw [this]; rfl
  exact go n (Nat.le_refl _)
theorem okK_nums {ps : List (Int × Int)} {n : Nat} (h : okK ps n = true) : ∀ i, i < n → 0 ≤ py ps i ∧ py ps i ≤ 112 := fun i hi => (Good.of h).y0 i hi
/-- what ManyTake asks is what SharesJoin asks of these points -/
theorem join_ptsOf (a : List Int) (h20 : a.length ≤ 20) : joinB (ptsOf 1 a) = mtakB a := by
  unfold joinB mtakB shB ptsB
  rw [ptsOf_length]
  cases hn : numsB a
  · rw [Bool.and_false]
    have : okK (ptsOf 1 a) a.length = false := by
      apply Bool.eq_false_iff.2
      intro h
      have hN : Nums a := fun i => by
        by_cases hi : i < a.length
        · have := okK_nums h i hi
          rwa [py_ptsOf 1 a i hi] at this
        · rw [List.getD_eq_getElem?_getD, List.getElem?_eq_none (by omega)]; simp
      rw [B_of_nums hN] at hn; cases hn
    rw [this]; simp
  · have hg := okK_of2 (ptsOf_good 1 a (by omega) (nums_of_B hn))
    have hx : ∀ k, k ≤ a.length → xsK (ptsOf 1 a) 112 k = true := by
      intro k hk
      induction k with
      | zero => rfl
      | succ k ih => rw [xsK, ih (by omega), px_ptsOf 1 a k (by omega)]; simp; omega
    rw [hg, hx _ (Nat.le_refl _)]
    unfold inB
    rw [decide_eq_true h20, show decide ((a.length : Int) ≤ 20) = true from decide_eq_true (by omega)]
    by_cases h0 : 0 < a.length
    · rw [decide_eq_true h0, show decide ((1 : Int) ≤ (a.length : Int)) = true from decide_eq_true (by omega)]; rfl
    · rw [decide_eq_false h0, show decide ((1 : Int) ≤ (a.length : Int)) = false from decide_eq_false (by omega)]; rfl
theorem exp_good2 {s top : Int} {d : List (Int × Int)} (hs : 0 ≤ s ∧ s ≤ 112) (h : shB d top = true) : Good ((0, s) :: d) (1 + d.length) := by
  simp only [shB, Bool.and_eq_true] at h
  have hg := (shB_good rfl h.1).1
  have hx := fun i (hi : i < d.length) => xsK_at h.2 hi
  have p0 : px ((0, s) :: d) 0 = 0 := rfl
  have q0 : py ((0, s) :: d) 0 = s := rfl
  have p1 : ∀ i, px ((0, s) :: d) (i + 1) = px d i := fun i => by simp [px]
  have q1 : ∀ i, py ((0, s) :: d) (i + 1) = py d i := fun i => by simp [py]
  refine ⟨fun i hi => ?_, fun i hi => ?_, fun i j hi hj hij => ?_⟩
  · cases i with
    | zero => rw [p0]; omega
    | succ i => rw [p1]; exact hg.x0 i (by omega)
  · cases i with
    | zero => rw [q0]; exact hs
    | succ i => rw [q1]; exact hg.y0 i (by omega)
  · cases i with
    | zero =>
      cases j with
      | zero => exact absurd rfl hij
      | succ j => rw [p0, p1]; have := hx j (by omega); omega
    | succ i =>
      cases j with
      | zero => rw [p0, p1]; have := hx i (by omega); omega
      | succ j => rw [p1, p1]; exact hg.ne i j (by omega) (by omega) (by omega)
end Go.Proofs.Ytbabkaofhhaneaa

/- The exported functions of chapter 1: what they return at good arguments and at others. Made by gen1.py. -/
namespace Go.Proofs.Ytbabkaofhhaneaa
open Go.RowKit

theorem mul_le (a b : Int) (ha : 0 ≤ a ∧ a ≤ 1000) (hb : 0 ≤ b ∧ b ≤ 1000) : 0 ≤ a * b ∧ a * b ≤ 1000000 :=
  ⟨Int.mul_nonneg ha.1 hb.1, by
    have := Int.mul_le_mul (a := a) (b := b) (c := 1000) (d := 1000) ha.2 hb.2 hb.1 (by omega)
    omega⟩
theorem ret_b {a b : Bool} (h : a = b) : Ending.returned (.bool a) = .returned (.bool b) := by rw [h]
theorem ret_ib {k : IntKind} {a b : Int} {c : Bool} (h : a = b) : Ending.returned (.tuple #[.int k a, .bool c]) = .returned (.tuple #[.int k b, .bool c]) := by rw [h]
theorem sub_same (a b : Int) : (a - b + 113) % 113 = (a - b) % 113 := by omega
theorem sub_same' (a b : Int) : (a + 113 - b) % 113 = (a - b) % 113 := by omega

set_option maxHeartbeats 400000 in
theorem i_NumSub (a b : Int) (w : World) (ha : numB a = true) (hb : numB b = true) :
    Calls Try.prog 57 #[.int .i64 a, .int .i64 b] w fun x w' => x = .returned (.tuple #[.int .i64 ((a - b) % 113), .bool true]) ∧ w = w' := by
  have ra := (numB_iff a).1 ha
  have rb := (numB_iff b).1 hb
  obtain ⟨ra1, ra2⟩ := ra
  obtain ⟨rb1, rb2⟩ := rb
  go_enter Try.func57, Try.ntmps57
  go_wp2_with (first | (go_at_call 63; refine (i_NumOk _ _).mono ?_; rintro e w' ⟨rfl, rfl⟩) | go_in)
  go_ret2
  exact ⟨by first | rfl | exact ret_ib (sub_same a b) | exact ret_ib (sub_same' a b), rfl⟩
set_option maxHeartbeats 400000 in
theorem i_NumSub_no (a b : Int) (w : World) (h : (numB a && numB b) = false) :
    Calls Try.prog 57 #[.int .i64 a, .int .i64 b] w fun x w' => x = .returned (.tuple #[.int .i64 0, .bool false]) ∧ w = w' := by
  cases ha : numB a
  · go_enter Try.func57, Try.ntmps57
    go_wp2_with (first | (go_at_call 63; refine (i_NumOk _ _).mono ?_; rintro e w' ⟨rfl, rfl⟩) | go_in)
    go_ret2
    exact ⟨rfl, rfl⟩
  · have hb : numB b = false := by rw [ha] at h; simpa using h
    clear h
    go_enter Try.func57, Try.ntmps57
    go_wp2_with (first | (go_at_call 63; refine (i_NumOk _ _).mono ?_; rintro e w' ⟨rfl, rfl⟩) | go_in)
    go_ret2
    exact ⟨rfl, rfl⟩

end Go.Proofs.Ytbabkaofhhaneaa

/- Lists of structs of 3 ints (Gate): as cells; what reads and what is owned; the laws' helpers over them. Made by tools/genflat.py. -/
namespace Go.Proofs.Ytbabkaofhhaneaa
open Go.RowKit
set_option maxRecDepth 100000

def cGate (ps : List (Int × Int × Int)) : List Value := ps.flatMap fun p => [.int .i64 (p.1), .int .i64 (p.2.1), .int .i64 (p.2.2)]
theorem cGate_length (ps : List (Int × Int × Int)) : (cGate ps).length = ps.length * 3 := by
  induction ps with
  | nil => rfl
  | cons p t ih => simp only [cGate, List.flatMap_cons, List.length_append, List.length_cons, List.length_nil] at *; omega
theorem cGate_cons (p : Int × Int × Int) (t : List (Int × Int × Int)) : cGate (p :: t) = .int .i64 (p.1) :: .int .i64 (p.2.1) :: .int .i64 (p.2.2) :: cGate t := rfl
theorem cGate_get0 (ps : List (Int × Int × Int)) (k : Nat) (h : k < ps.length) : (cGate ps)[k * 3]? = some (.int .i64 ((ps.getD k (0, 0, 0)).1)) := by
  induction ps generalizing k with
  | nil => simp at h
  | cons p t ih =>
    cases k with
    | zero => simp [cGate_cons]
    | succ k => rw [cGate_cons, show (k + 1) * 3 = k * 3 + 1 + 1 + 1 by omega, List.getElem?_cons_succ, List.getElem?_cons_succ, List.getElem?_cons_succ, ih k (by simpa using h)]; rfl
theorem cGate_get1 (ps : List (Int × Int × Int)) (k : Nat) (h : k < ps.length) : (cGate ps)[k * 3 + 1]? = some (.int .i64 ((ps.getD k (0, 0, 0)).2.1)) := by
  induction ps generalizing k with
  | nil => simp at h
  | cons p t ih =>
    cases k with
    | zero => simp [cGate_cons]
    | succ k => rw [cGate_cons, show (k + 1) * 3 + 1 = k * 3 + 1 + 1 + 1 + 1 by omega, List.getElem?_cons_succ, List.getElem?_cons_succ, List.getElem?_cons_succ, ih k (by simpa using h)]; rfl
theorem cGate_get2 (ps : List (Int × Int × Int)) (k : Nat) (h : k < ps.length) : (cGate ps)[k * 3 + 2]? = some (.int .i64 ((ps.getD k (0, 0, 0)).2.2)) := by
  induction ps generalizing k with
  | nil => simp at h
  | cons p t ih =>
    cases k with
    | zero => simp [cGate_cons]
    | succ k => rw [cGate_cons, show (k + 1) * 3 + 2 = k * 3 + 2 + 1 + 1 + 1 by omega, List.getElem?_cons_succ, List.getElem?_cons_succ, List.getElem?_cons_succ, ih k (by simpa using h)]; rfl
theorem cGate_set (ps : List (Int × Int × Int)) (k : Nat) (x y z : Int) : (((cGate ps).set (k * 3) (.int .i64 x)).set (k * 3 + 1) (.int .i64 y)).set (k * 3 + 2) (.int .i64 z) = cGate (ps.set k (x, y, z)) := by
  induction ps generalizing k with
  | nil => rfl
  | cons p t ih =>
    cases k with
    | zero => rfl
    | succ k =>
      have e0 : (k + 1) * 3 = k * 3 + 1 + 1 + 1 := by omega
      have e1 : (k + 1) * 3 + 1 = k * 3 + 1 + 1 + 1 + 1 := by omega
      have e2 : (k + 1) * 3 + 2 = k * 3 + 2 + 1 + 1 + 1 := by omega
      rw [cGate_cons, e2, e1, e0, List.set_cons_succ, List.set_cons_succ, List.set_cons_succ, List.set_cons_succ, List.set_cons_succ, List.set_cons_succ, List.set_cons_succ, List.set_cons_succ, List.set_cons_succ, ih k, List.set_cons_succ, cGate_cons]

theorem Rd.Gatelen {w : World} {hi n : Nat} {A : Option Addr} {ps : List (Int × Int × Int)} (h : Rd w hi 3 A n (cGate ps)) : ps.length = n := by have := h.1; rw [cGate_length] at this; omega
theorem Ow.Gatelen {w : World} {lo hi e n c : Nat} {A : Option Addr} {ps : List (Int × Int × Int)} (h : Ow w lo hi e 3 A n c (cGate ps)) : ps.length = n := by have := h.1; rw [cGate_length] at this; omega
theorem Rd.GateAt {w : World} {hi n k : Nat} {A : Option Addr} {ps : List (Int × Int × Int)} (h : Rd w hi 3 A n (cGate ps)) (hk : k < n) :
    ∃ (a : Addr) (x y z : Int), A = some a ∧ a.block < hi ∧ w.cell? (a.add (k * 3)) = some (.int .i64 x) ∧ w.cell? ⟨(a.add (k * 3)).block, (a.add (k * 3)).off + 1, none⟩ = some (.int .i64 y) ∧ w.cell? ⟨(a.add (k * 3)).block, (a.add (k * 3)).off + 2, none⟩ = some (.int .i64 z) ∧ Hid (ps.getD k (0, 0, 0) = (x, y, z)) := by
  obtain ⟨a, e, hb, hc⟩ := h.2 (by omega)
  have hl := h.Gatelen
  exact ⟨a, _, _, _, e, hb, hc _ _ (cGate_get0 ps k (by omega)), by rw [add_next _ _ _ (by omega)]; exact hc _ _ (cGate_get1 ps k (by omega)), by rw [add_next _ _ _ (by omega)]; exact hc _ _ (cGate_get2 ps k (by omega)), Lib.hid rfl⟩

theorem made_Gate (n : Nat) : (madeCells #[.int .i64 0, .int .i64 0, .int .i64 0] (n * 3)).toList = cGate (List.replicate n (0, 0, 0)) := by
  have h0 : ∀ (k : Nat), (madeCells #[Value.int .i64 0, .int .i64 0, .int .i64 0] k).toList = List.replicate k (Value.int .i64 0) := by
    intro k
    apply List.ext_getElem?
    intro j
    by_cases hj : j < k
    · have h2 : j % 3 = 0 ∨ j % 3 = 1 ∨ j % 3 = 2 := by omega
      rcases h2 with h2 | h2 | h2 <;> simp [madeCells, hj, h2]
    · simp [madeCells, hj]
  rw [h0]
  induction n with
  | zero => rfl
  | succ n ih => rw [show (n + 1) * 3 = n * 3 + 1 + 1 + 1 by omega, List.replicate_succ, List.replicate_succ, List.replicate_succ, ih, List.replicate_succ, cGate_cons]
theorem copy_Gate {ps : List (Int × Int × Int)} {n k : Nat} {x y z : Int} (hz : ps.length = n) (hk : k < n) (hp : ps.getD k (0, 0, 0) = (x, y, z)) : (ps.take k ++ List.replicate (n - k) (0, 0, 0)).set k (x, y, z) = ps.take (k + 1) ++ List.replicate (n - (k + 1)) (0, 0, 0) := by
  have hl : (ps.take k).length = k := by simp; omega
  rw [List.set_append_right _ _ (by omega), hl, Nat.sub_self, show n - k = (n - (k + 1)) + 1 by omega, List.replicate_succ]
  have hk' : k < ps.length := by omega
  rw [List.set_cons_zero, List.take_succ_eq_append_getElem hk', List.append_assoc, List.singleton_append]
  have : ps[k] = (x, y, z) := by rw [← hp]; simp [hk']
  rw [this]
/-- one stored -/
theorem Ow.setGate {w : World} {lo hi e n c g k : Nat} {ps : List (Int × Int × Int)} (h : Ow w lo hi e 3 (some ⟨g, 0, none⟩) n c (cGate ps)) (x y z : Int) :
    Ow (((w.setCell ⟨g, k * 3, none⟩ (.int .i64 x)).setCell ⟨g, k * 3 + 1, none⟩ (.int .i64 y)).setCell ⟨g, k * 3 + 2, none⟩ (.int .i64 z)) lo hi e 3 (some ⟨g, 0, none⟩) n c (cGate (ps.set k (x, y, z))) := by
  have := (((h.set (k * 3) (.int .i64 x)).set (k * 3 + 1) (.int .i64 y)).set (k * 3 + 2) (.int .i64 z))
  rw [cGate_set] at this; exact this

/-- marked one behind the other -/
def iotaGate (K : Int) (n : Nat) : List (Int × Int × Int) := (List.range n).map fun i : Nat => (K + 3 * (i : Int), K + 3 * (i : Int) + 1, K + 3 * (i : Int) + 1 + 1)
theorem iotaGate_length (K : Int) (n : Nat) : (iotaGate K n).length = n := by simp [iotaGate]
theorem iotaGate_succ (K : Int) (n : Nat) : iotaGate K (n + 1) = iotaGate K n ++ [(K + 3 * (n : Int), K + 3 * (n : Int) + 1, K + 3 * (n : Int) + 1 + 1)] := by simp [iotaGate, List.range_succ]
theorem iotaGate_get (K : Int) (n k : Nat) (h : k < n) : (iotaGate K n).getD k (0, 0, 0) = (K + 3 * (k : Int), K + 3 * (k : Int) + 1, K + 3 * (k : Int) + 1 + 1) := by simp [iotaGate, h]
theorem mark_Gate {ps : List (Int × Int × Int)} {n k : Nat} (K : Int) (hz : ps.length = n) (hk : k < n) : (iotaGate K k ++ ps.drop k).set k (K + 3 * (k : Int), K + 3 * (k : Int) + 1, K + 3 * (k : Int) + 1 + 1) = iotaGate K (k + 1) ++ ps.drop (k + 1) := by
  have hl := iotaGate_length K k
  have hk' : k < ps.length := by omega
  rw [List.set_append_right _ _ (by omega), hl, Nat.sub_self, iotaGate_succ, List.append_assoc, List.drop_eq_getElem_cons hk', List.set_cons_zero, List.singleton_append]

/-! as whole values -/
def RdGateS (w : World) (hi : Nat) (v : Value) (d : List (Int × Int × Int)) : Prop := ∃ A n c, v = .slice A n c ∧ n ≤ 9223372036854775807 ∧ Rd w hi 3 A n (cGate d)
def szGateS (d : List (Int × Int × Int)) : Nat := d.length
def mkGateS (K : Int) (d : List (Int × Int × Int)) : List (Int × Int × Int) := iotaGate K d.length
section
variable {w w' : World} {lo hi lo' hi' B mid : Nat} {v : Value} {d : List (Int × Int × Int)}
theorem RdGateS.below (h : RdGateS w hi v d) (hb : Below hi w w') : RdGateS w' hi v d := by
  obtain ⟨A, n, c, rfl, hn, r⟩ := h; exact ⟨A, n, c, rfl, hn, r.below hb⟩
theorem RdGateS.more (h : RdGateS w hi v d) (hh : hi ≤ hi') : RdGateS w hi' v d := by
  obtain ⟨A, n, c, rfl, hn, r⟩ := h; exact ⟨A, n, c, rfl, hn, r.more hh⟩
end
theorem RdGateS.nil_ (w : World) (hi : Nat) : RdGateS w hi (.slice none 0 0) [] := ⟨none, 0, 0, rfl, by omega, by simp [cGate], fun h => by omega⟩

end Go.Proofs.Ytbabkaofhhaneaa

/- A block that the call itself made and that holds known cells: a boxed struct, a variable. -/
namespace Go.Proofs.Ytbabkaofhhaneaa
open Go.RowKit
set_option maxRecDepth 100000

/-- block b holds the cells cs of element type e -/
def Bx (w : World) (b : Nat) (cs : Array Value) (e : TypeId) : Prop := w.heap[b]? = some (.cells cs e (0, 0))
section
variable {w w' : World} {b e : Nat} {cs : Array Value}
theorem Bx.new (w : World) (cs : Array Value) (e : TypeId) : Bx (w.alloc (.cells cs e)) w.heap.size cs e := heap_alloc_new w _
theorem Bx.lt (h : Bx w b cs e) : b < w.heap.size := (Array.getElem?_eq_some_iff.1 h).1
theorem Bx.alloc (h : Bx w b cs e) (o : Obj) : Bx (w.alloc o) b cs e := (Below.heap_alloc w o b h.lt).trans h
theorem Bx.below {B : Nat} (h : Bx w b cs e) (hb : Below B w w') (hl : b < B) : Bx w' b cs e := (hb.block b hl).trans h
theorem Bx.kept {lo hi : Nat} (h : Bx w b cs e) (hk : Kept lo hi w w') (hl : b < lo ∨ hi ≤ b) : Bx w' b cs e := (hk.block b h.lt (by omega)).trans h
theorem Bx.cell (h : Bx w b cs e) (j : Nat) : w.cell? ⟨b, j, none⟩ = cs[j]? := cell_of_row w b j cs e (0, 0) h
theorem Bx.free (h : Bx w b cs e) (j : Nat) : w.frozen? ⟨b, j, none⟩ = false := frozen_of_row w b j cs e h
theorem Bx.set (h : Bx w b cs e) (j : Nat) (u : Value) : Bx (w.setCell ⟨b, j, none⟩ u) b (cs.setIfInBounds j u) e := heap_setCell_same w b j cs e u h
theorem Bx.other (h : Bx w b cs e) (p : Addr) (u : Value) (hp : p.block ≠ b) : Bx (w.setCell p u) b cs e := (Below.heap_setCell w p u b (fun h' => hp h'.symm)).trans h
theorem Bx.still (h : Bx w b cs e) (hs : Still w w') : Bx w' b cs e := by obtain ⟨d, rfl⟩ := hs; exact h
end

end Go.Proofs.Ytbabkaofhhaneaa

/- Chapter 2: PolyAt. -/
namespace Go.Proofs.Ytbabkaofhhaneaa
open Go.RowKit

def polyAtB (zs : List Int) (x : Int) : Bool := polyB zs && numB x
def polyAtV (zs : List Int) (x : Int) : Int := if polyAtB zs x = true then atI zs x else 0
theorem ret_ib2 {k : IntKind} {a b : Int} {c d : Bool} (h : a = b) (h2 : c = d) : Ending.returned (.tuple #[.int k a, .bool c]) = .returned (.tuple #[.int k b, .bool d]) := by rw [h, h2]
theorem polyAt_no {zs : List Int} {x : Int} (h : polyAtB zs x = false) : (0 : Int) = polyAtV zs x := by simp [polyAtV, h]
theorem polyAt_yes {zs : List Int} {x : Int} (h : polyAtB zs x = true) : atI zs x = polyAtV zs x := by simp [polyAtV, h]

end Go.Proofs.Ytbabkaofhhaneaa

/- Chapter 12: TableOk, PairTake, PairAnswer, PairAsk of both sides. Made by tools/gen12/basics.py. -/
namespace Go.Proofs.Ytbabkaofhhaneaa
open Go.RowKit
set_option maxRecDepth 100000

set_option maxHeartbeats 1000000 in
theorem s_TableOk (A : Option Addr) (n c : Nat) (xs : List Int) (w : World) (h : Rd w w.heap.size 1 A n (cI xs)) (hn : n ≤ 1048576) :
    Calls Try.prog 16 #[.slice A n c] w fun e w' => e = .returned (.bool (tabB xs)) ∧ w = w' := by
  have HL := Lib.hid h.len
  have HR := Lib.hid h
  clear h
  go_enter Try.func16, Try.ntmps16
  go_wp2_with fail
  refine (s_l6In _ _ _ _).mono ?_
  rintro e w' ⟨rfl, rfl⟩
  cases e1 : inB (n : Int) 1 16
  · have HF : Hid (tabB xs = false) := Lib.hid (by simp [tabB, HL.out, e1])
    go_wp2
    go_ret
    exact ⟨ret_bool HF.out.symm, rfl⟩
  have HF : Hid (tabB xs = numsB xs) := Lib.hid (by simp [tabB, HL.out, e1])
  clear e1
  go_wp2_with fail
  refine (s_l1In _ _ _ _ _ HR.out hn).mono ?_
  rintro e w' ⟨rfl, rfl⟩
  go_wp2
  go_ret
  exact ⟨ret_bool HF.out.symm, rfl⟩
set_option maxHeartbeats 1000000 in
theorem i_TableOk (A : Option Addr) (n c : Nat) (xs : List Int) (w : World) (h : Rd w w.heap.size 1 A n (cI xs)) (hn : n ≤ 1048576) :
    Calls Try.prog 18 #[.slice A n c] w fun e w' => e = .returned (.bool (tabB xs)) ∧ w = w' := by
  have HL := Lib.hid h.len
  have HR := Lib.hid h
  clear h
  by_cases h1 : 1 ≤ n
  · by_cases h2 : n ≤ 16
    · have HF : Hid (tabB xs = numsB xs) := Lib.hid (by rw [tabB, HL.out, inB_t ⟨by omega, by omega⟩, Bool.true_and])
      go_enter Try.func18, Try.ntmps18
      go_wp2_with fail
      refine (i_numbersOk _ _ _ _ _ HR.out hn).mono ?_
      rintro e w' ⟨rfl, rfl⟩
      go_wp2
      go_ret
      exact ⟨ret_bool HF.out.symm, rfl⟩
    · have HF : Hid (tabB xs = false) := Lib.hid (by rw [tabB, HL.out, inB_f (by omega), Bool.false_and])
      go_enter Try.func18, Try.ntmps18
      go_wp2
      go_ret
      exact ⟨ret_bool HF.out.symm, rfl⟩
  · have HF : Hid (tabB xs = false) := Lib.hid (by rw [tabB, HL.out, inB_f (by omega), Bool.false_and])
    go_enter Try.func18, Try.ntmps18
    go_wp2
    go_ret
    exact ⟨ret_bool HF.out.symm, rfl⟩
theorem X_s_TableOk (v : Value) (d : List Int) (w : World) (h : RdIntS w w.heap.size v d) (hs : szIntS d ≤ 1048576) :
    Calls Try.prog 16 #[v] w fun e w' => e = .returned (.bool (tabB d)) ∧ Below w.heap.size w w' := by
  obtain ⟨A, n, c, rfl, _, r⟩ := h
  refine (s_TableOk A n c d w r (by have := r.len; unfold szIntS at hs; omega)).mono ?_
  rintro e w' ⟨rfl, rfl⟩
  exact ⟨rfl, Below.refl _ _⟩
theorem X_i_TableOk (v : Value) (d : List Int) (w : World) (h : RdIntS w w.heap.size v d) (hs : szIntS d ≤ 1048576) :
    Calls Try.prog 18 #[v] w fun e w' => e = .returned (.bool (tabB d)) ∧ Below w.heap.size w w' := by
  obtain ⟨A, n, c, rfl, _, r⟩ := h
  refine (i_TableOk A n c d w r (by have := r.len; unfold szIntS at hs; omega)).mono ?_
  rintro e w' ⟨rfl, rfl⟩
  exact ⟨rfl, Below.refl _ _⟩

set_option maxHeartbeats 1000000 in
theorem i_inSet (A : Option Addr) (n c : Nat) (i : Int) (ss : List Bool) (w : World) (hl : ss.length = n) :
    Calls Try.prog 52 #[.slice A n c, .int .i64 i] w fun e w' => e = .returned (.bool (pairB ss i)) ∧ w = w' := by
  have HL := Lib.hid hl
  clear hl
  by_cases h2 : n ≤ 16
  · have HF : Hid (pairB ss i = inB i 0 ((n : Int) - 1)) := Lib.hid (by
      unfold pairB; rw [HL.out]
      cases e : inB i 0 ((n : Int) - 1)
      · simp
      · have := inB_iff.1 e
        rw [inB_t ⟨by omega, by omega⟩]; rfl)
    go_enter Try.func52, Try.ntmps52
    go_wp2_with fail
    refine (i_indexOk _ _ _).mono ?_
    rintro e w' ⟨rfl, rfl⟩
    go_wp2
    go_ret
    exact ⟨ret_bool HF.out.symm, rfl⟩
  · have HF : Hid (pairB ss i = false) := Lib.hid (by unfold pairB; rw [HL.out, inB_f (by omega)]; rfl)
    go_enter Try.func52, Try.ntmps52
    go_wp2
    go_ret
    exact ⟨ret_bool HF.out.symm, rfl⟩

set_option maxHeartbeats 4000000 in
theorem s_PairTake (A : Option Addr) (n c : Nat) (ss : List Bool) (a b i : Int) (w : World) (h : Rd w w.heap.size 1 A n (cB ss)) (hn : n ≤ 1048576) :
    Calls Try.prog 28 #[.slice A n c, .int .i64 a, .int .i64 b, .int .i64 i] w fun e w' => e = .returned (.tuple #[.int .i64 (ptakeV ss a b i), .bool (ptakeB ss a b i)]) ∧ Below w.heap.size w w' := by
  have HL := Lib.hid h.blen
  have HR := Lib.hid h
  clear h
  go_enter Try.func28, Try.ntmps28
  go_wp2_with fail
  refine (s_l6In _ _ _ _).mono ?_
  rintro e w' ⟨rfl, rfl⟩
  cases e1 : inB (n : Int) 1 16
  · have HF : Hid (ptakeV ss a b i = 0 ∧ ptakeB ss a b i = false) := Lib.hid (by simp [ptakeV, ptakeB, pairB, HL.out, e1])
    go_wp2
    go_ret2
    exact ⟨ret_ib2 HF.out.1.symm HF.out.2.symm, Below.refl _ _⟩
  obtain ⟨n1, n16⟩ := inB_iff.1 e1
  have im : IntKind.i64.wrap ((n : Int) - 1) = (n : Int) - 1 := IntWalk.i64_in _ (by omega)
  go_wp2_with fail
  refine (s_l6In _ _ _ _).mono ?_
  rintro e w' ⟨rfl, rfl⟩
  cases e2 : inB i 0 ((n : Int) - 1)
  · have HF : Hid (ptakeV ss a b i = 0 ∧ ptakeB ss a b i = false) := Lib.hid (by simp [ptakeV, ptakeB, pairB, HL.out, e2])
    go_wp2
    go_ret2
    exact ⟨ret_ib2 HF.out.1.symm HF.out.2.symm, Below.refl _ _⟩
  have HP : Hid (pairB ss i = true) := Lib.hid (by simp [pairB, HL.out, e1, e2])
  obtain ⟨i0, i1'⟩ := inB_iff.1 e2
  go_wp2_with fail
  refine (s_NumOk _ _).mono ?_
  rintro e w' ⟨rfl, rfl⟩
  cases e3 : numB a
  · have HF : Hid (ptakeV ss a b i = 0 ∧ ptakeB ss a b i = false) := Lib.hid (by simp [ptakeV, ptakeB, e3])
    go_wp2
    go_ret2
    exact ⟨ret_ib2 HF.out.1.symm HF.out.2.symm, Below.refl _ _⟩
  go_wp2_with fail
  refine (s_NumOk _ _).mono ?_
  rintro e w' ⟨rfl, rfl⟩
  cases e4 : numB b
  · have HF : Hid (ptakeV ss a b i = 0 ∧ ptakeB ss a b i = false) := Lib.hid (by simp [ptakeV, ptakeB, e4])
    go_wp2
    go_ret2
    exact ⟨ret_ib2 HF.out.1.symm HF.out.2.symm, Below.refl _ _⟩
  have HB : Hid (ptakeB ss a b i = true) := Lib.hid (by simp [ptakeB, HP.out, e3, e4])
  obtain ⟨a0, a1⟩ := (numB_iff a).1 e3
  obtain ⟨b0, b1⟩ := (numB_iff b).1 e4
  clear e1 e2 e3 e4
  obtain ⟨k, hk⟩ : ∃ k : Nat, i = (k : Int) := ⟨i.toNat, by omega⟩
  subst hk
  have hkn : k < n := by omega
  obtain ⟨ad, z, rfl, ab, ac, HZ⟩ := HR.out.boolAt hkn
  have i1 : (k : Int) < (n : Int) := by omega
  have HV : Hid (ptakeV ss a b k = if z = true then (a - b) % 113 else (b - a) % 113) := Lib.hid (by unfold ptakeV; rw [if_pos HB.out, HZ.out, Int.toNat_natCast])
  cases z
  · have HV2 : Hid (ptakeV ss a b k = (b - a) % 113) := Lib.hid (by rw [HV.out]; simp)
    clear HV
    go_wp2_with fail
    refine (s_l1Sub _ _ _ b0 b1 a0 a1).mono ?_
    rintro e w' ⟨rfl, rfl⟩
    go_wp2
    go_ret2
    exact ⟨ret_ib2 HV2.out.symm HB.out.symm, Below.refl _ _⟩
  · have HV2 : Hid (ptakeV ss a b k = (a - b) % 113) := Lib.hid (by rw [HV.out]; simp)
    clear HV
    go_wp2_with fail
    refine (s_l1Sub _ _ _ a0 a1 b0 b1).mono ?_
    rintro e w' ⟨rfl, rfl⟩
    go_wp2
    go_ret2
    exact ⟨ret_ib2 HV2.out.symm HB.out.symm, Below.refl _ _⟩
set_option maxHeartbeats 4000000 in
theorem i_PairTake (A : Option Addr) (n c : Nat) (ss : List Bool) (a b i : Int) (w : World) (h : Rd w w.heap.size 1 A n (cB ss)) (_hn : n ≤ 1048576) :
    Calls Try.prog 29 #[.slice A n c, .int .i64 a, .int .i64 b, .int .i64 i] w fun e w' => e = .returned (.tuple #[.int .i64 (ptakeV ss a b i), .bool (ptakeB ss a b i)]) ∧ Below w.heap.size w w' := by
  have HL := Lib.hid h.blen
  have HR := Lib.hid h
  clear h
  go_enter Try.func29, Try.ntmps29
  go_wp2_with fail
  refine (i_inSet A n c i ss _ HL.out).mono ?_
  rintro e w' ⟨rfl, rfl⟩
  cases e1 : pairB ss i
  · have HF : Hid (ptakeV ss a b i = 0 ∧ ptakeB ss a b i = false) := Lib.hid (by simp [ptakeV, ptakeB, e1])
    go_wp2
    go_ret2
    exact ⟨ret_ib2 HF.out.1.symm HF.out.2.symm, Below.refl _ _⟩
  have hp := e1
  simp only [pairB, Bool.and_eq_true, inB_iff] at hp
  rw [HL.out] at hp
  obtain ⟨⟨n1, n16⟩, i0, i1'⟩ := hp
  obtain ⟨k, hk⟩ : ∃ k : Nat, i = (k : Int) := ⟨i.toNat, by omega⟩
  subst hk
  have hkn : k < n := by omega
  obtain ⟨ad, z, rfl, ab, ac, HZ⟩ := HR.out.boolAt hkn
  have i1 : (k : Int) < (n : Int) := by omega
  have HP := Lib.hid e1
  clear e1
  cases z
  · cases e3 : numB b && numB a
    · have HF : Hid (ptakeV ss a b k = 0 ∧ ptakeB ss a b k = false) := Lib.hid (by have : ptakeB ss a b k = false := (by unfold ptakeB; rw [Bool.and_comm (numB a), e3, Bool.and_false]); exact ⟨by unfold ptakeV; rw [this]; rfl, this⟩)
      go_wp2_with fail
      refine (i_NumSub_no _ _ _ e3).mono ?_
      rintro e w' ⟨rfl, rfl⟩
      go_wp2
      go_ret2
      exact ⟨ret_ib2 HF.out.1.symm HF.out.2.symm, Below.refl _ _⟩
    · have HB : Hid (ptakeB ss a b k = true) := Lib.hid (by unfold ptakeB; rw [Bool.and_comm (numB a), e3, HP.out]; rfl)
      have HV : Hid (ptakeV ss a b k = (b - a) % 113) := Lib.hid (by unfold ptakeV; rw [if_pos HB.out, Int.toNat_natCast, ← HZ.out]; rfl)
      rw [Bool.and_eq_true] at e3
      go_wp2_with fail
      refine (i_NumSub _ _ _ e3.1 e3.2).mono ?_
      rintro e w' ⟨rfl, rfl⟩
      go_wp2
      go_ret2
      exact ⟨ret_ib2 HV.out.symm HB.out.symm, Below.refl _ _⟩
  · cases e3 : numB a && numB b
    · have HF : Hid (ptakeV ss a b k = 0 ∧ ptakeB ss a b k = false) := Lib.hid (by have : ptakeB ss a b k = false := (by unfold ptakeB; rw [e3, Bool.and_false]); exact ⟨by unfold ptakeV; rw [this]; rfl, this⟩)
      go_wp2_with fail
      refine (i_NumSub_no _ _ _ e3).mono ?_
      rintro e w' ⟨rfl, rfl⟩
      go_wp2
      go_ret2
      exact ⟨ret_ib2 HF.out.1.symm HF.out.2.symm, Below.refl _ _⟩
    · have HB : Hid (ptakeB ss a b k = true) := Lib.hid (by unfold ptakeB; rw [e3, HP.out]; rfl)
      have HV : Hid (ptakeV ss a b k = (a - b) % 113) := Lib.hid (by unfold ptakeV; rw [if_pos HB.out, Int.toNat_natCast, ← HZ.out]; rfl)
      rw [Bool.and_eq_true] at e3
      go_wp2_with fail
      refine (i_NumSub _ _ _ e3.1 e3.2).mono ?_
      rintro e w' ⟨rfl, rfl⟩
      go_wp2
      go_ret2
      exact ⟨ret_ib2 HV.out.symm HB.out.symm, Below.refl _ _⟩
theorem X_s_PairTake (v : Value) (d : List Bool) (a b i : Int) (w : World) (h : RdBoolS w w.heap.size v d) (hs : szBoolS d ≤ 1048576) :
    Calls Try.prog 28 #[v, .int .i64 a, .int .i64 b, .int .i64 i] w fun e w' => e = .returned (.tuple #[.int .i64 (ptakeV d a b i), .bool (ptakeB d a b i)]) ∧ Below w.heap.size w w' := by
  obtain ⟨A, n, c, rfl, _, r⟩ := h
  exact s_PairTake A n c d a b i w r (by have := r.blen; unfold szBoolS at hs; omega)
theorem X_i_PairTake (v : Value) (d : List Bool) (a b i : Int) (w : World) (h : RdBoolS w w.heap.size v d) (hs : szBoolS d ≤ 1048576) :
    Calls Try.prog 29 #[v, .int .i64 a, .int .i64 b, .int .i64 i] w fun e w' => e = .returned (.tuple #[.int .i64 (ptakeV d a b i), .bool (ptakeB d a b i)]) ∧ Below w.heap.size w w' := by
  obtain ⟨A, n, c, rfl, _, r⟩ := h
  exact i_PairTake A n c d a b i w r (by have := r.blen; unfold szBoolS at hs; omega)

set_option maxHeartbeats 4000000 in
theorem s_PairAnswer (A : Option Addr) (n c : Nat) (xs : List Int) (A' : Option Addr) (n' c' : Nat) (ss : List Bool) (w : World) (h : Rd w w.heap.size 1 A n (cI xs)) (hn : n ≤ 1048576) (h' : Rd w w.heap.size 1 A' n' (cB ss)) (hn' : n' ≤ 1048576) :
    Calls Try.prog 26 #[.slice A n c, .slice A' n' c'] w fun e w' => e = .returned (.tuple #[.int .i64 (answV xs ss), .bool (answB xs ss)]) ∧ Below w.heap.size w w' := by
  have HL := Lib.hid h.len
  have HL' := Lib.hid h'.blen
  have HR := Lib.hid h
  have HR' := Lib.hid h'
  clear h h'
  go_enter Try.func26, Try.ntmps26
  go_wp2_with fail
  refine (s_TableOk _ _ _ _ _ HR.out hn).mono ?_
  rintro e w' ⟨rfl, rfl⟩
  cases e1 : tabB xs
  · have HF : Hid (answV xs ss = 0 ∧ answB xs ss = false) := Lib.hid (by simp [answV, answB, e1])
    go_wp2
    go_ret2
    exact ⟨ret_ib2 HF.out.1.symm HF.out.2.symm, Below.refl _ _⟩
  have hp := e1
  simp only [tabB, Bool.and_eq_true, inB_iff] at hp
  rw [HL.out] at hp
  obtain ⟨⟨n1, n16⟩, hN⟩ := hp
  by_cases hnn : n' = n
  · subst hnn
    have HB : Hid (answB xs ss = true) := Lib.hid (by simp [answB, e1, HL.out, HL'.out])
    have HV : Hid (answV xs ss = setK xs ss n') := Lib.hid (by rw [answV, if_pos HB.out, HL.out])
    have HN := Lib.hid (nums_of_B hN)
    clear e1 hN
    have hnz : ¬ n' = 0 := by omega
    go_wp2
    go_loop [6, 7] (fun s i => ∃ (k : Nat) (sm : Int), k ≤ n' ∧ i = .int .i64 k ∧ s = .int .i64 sm ∧ Hid (sm = setK xs ss k)) (fun _ i => n' - (intOf i).toNat)
    case atStart => exact ⟨0, 0, Nat.zero_le _, rfl, rfl, Lib.hid rfl⟩
    case round =>
      obtain ⟨k, sm, hk, rfl, rfl, HS⟩ := hrel
      by_cases hlt : k < n'
      · obtain ⟨a, x, hAa, hab, hcx, HX⟩ := HR.out.intAt hlt
        obtain ⟨a', z, hAa', hab', hcz, HZ⟩ := HR'.out.boolAt hlt
        subst hAa
        subst hAa'
        have sb := setK_bd xs ss k
        have xb := HN.out k
        rw [← HS.out] at sb
        rw [← HX.out] at xb
        obtain ⟨s0, s1⟩ := sb
        obtain ⟨x0, x1⟩ := xb
        have HS2 : Hid (setK xs ss (k + 1) = if z = true then (sm + x) % 113 else sm) := Lib.hid (by rw [setK, ← HS.out, ← HX.out, ← HZ.out])
        have i0 : (0 : Int) ≤ (k : Int) := by omega
        have i1 : (k : Int) < (n' : Int) := by omega
        cases z
        · have HS3 : Hid (sm = setK xs ss (k + 1)) := Lib.hid (by rw [HS2.out]; simp)
          clear HS2 HS
          go_wp2
          go_round
          case rel => exact ⟨k + 1, sm, by omega, by go_num, rfl, HS3⟩
          case measure => simp [intOf] <;> omega
        · have HS3 : Hid ((sm + x) % 113 = setK xs ss (k + 1)) := Lib.hid (by rw [HS2.out]; simp)
          clear HS2 HS
          go_wp2
          go_round
          case rel => exact ⟨k + 1, _, by omega, by go_num, rfl, HS3⟩
          case measure => simp [intOf] <;> omega
      · obtain rfl : k = n' := by omega
        have HV2 : Hid (answV xs ss = sm) := Lib.hid (by rw [HV.out, HS.out])
        clear HS HV
        go_wp2
        go_ret2
        exact ⟨ret_ib2 HV2.out.symm HB.out.symm, Below.refl _ _⟩
  · have q0 : ((n' : Int) != (n : Int)) = true := by rw [bne_iff_ne]; omega
    have q1 : ¬ (n' : Int) = (n : Int) := by omega
    have HF : Hid (answV xs ss = 0 ∧ answB xs ss = false) := Lib.hid (by simp [answV, answB, e1, HL.out, HL'.out, hnn])
    clear e1 hN
    go_wp2
    go_ret2
    exact ⟨ret_ib2 HF.out.1.symm HF.out.2.symm, Below.refl _ _⟩

set_option maxHeartbeats 4000000 in
theorem i_sums1 (b bt : Nat) (A : Option Addr) (n c : Nat) (xs : List Int) (A' : Option Addr) (c' : Nat) (ss : List Bool) (w : World) (hb : w.cell? ⟨b, 0, none⟩ = some (.pointer (some ⟨bt, 0, none⟩))) (ht : w.cell? ⟨bt, 0, none⟩ = some (.slice A n c))
    (h : Rd w w.heap.size 1 A n (cI xs)) (hn : n ≤ 16) (h' : Rd w w.heap.size 1 A' n (cB ss)) (hN : Nums xs) :
    Calls Try.prog 79 #[.slice A' n c', .pointer (some ⟨b, 0, none⟩)] w fun e w' => e = .returned (.int .i64 (setK xs ss n)) ∧ w = w' := by
  have HR := Lib.hid h
  have HR' := Lib.hid h'
  have HN := Lib.hid hN
  clear h h' hN
  go_enter Try.func79, Try.ntmps79
  go_wp2
  go_loop [4, 11] (fun s i => ∃ (k : Nat) (sm : Int), k ≤ n ∧ i = .int .i64 k ∧ s = .int .i64 sm ∧ Hid (sm = setK xs ss k)) (fun _ i => n - (intOf i).toNat)
  case atStart => exact ⟨0, 0, Nat.zero_le _, rfl, rfl, Lib.hid rfl⟩
  case round =>
    obtain ⟨k, sm, hk, rfl, rfl, HS⟩ := hrel
    by_cases hlt : k < n
    · obtain ⟨a, x, hAa, hab, hcx, HX⟩ := HR.out.intAt hlt
      obtain ⟨a', z, hAa', hab', hcz, HZ⟩ := HR'.out.boolAt hlt
      subst hAa
      subst hAa'
      have sb := setK_bd xs ss k
      have xb := HN.out k
      rw [← HS.out] at sb
      rw [← HX.out] at xb
      obtain ⟨s0, s1⟩ := sb
      obtain ⟨x0, x1⟩ := xb
      have HS2 : Hid (setK xs ss (k + 1) = if z = true then (sm + x) % 113 else sm) := Lib.hid (by rw [setK, ← HS.out, ← HX.out, ← HZ.out])
      have i0 : (0 : Int) ≤ (k : Int) := by omega
      have i1 : (k : Int) < (n : Int) := by omega
      cases z
      · have HS3 : Hid (sm = setK xs ss (k + 1)) := Lib.hid (by rw [HS2.out]; simp)
        clear HS2 HS
        go_wp2
        go_round
        case rel => exact ⟨k + 1, sm, by omega, by go_num, rfl, HS3⟩
        case measure => simp [intOf] <;> omega
      · have HS3 : Hid ((sm + x) % 113 = setK xs ss (k + 1)) := Lib.hid (by rw [HS2.out]; simp)
        clear HS2 HS
        go_wp2_with fail
        refine (i_plus _ _ _ s0 s1 x0 x1).mono ?_
        rintro e w' ⟨rfl, rfl⟩
        go_wp2
        go_round
        case rel => exact ⟨k + 1, _, by omega, by go_num, rfl, HS3⟩
        case measure => simp [intOf] <;> omega
    · obtain rfl : k = n := by omega
      have HV2 : Hid (setK xs ss k = sm) := Lib.hid HS.out.symm
      clear HS
      go_wp2
      go_ret
      exact ⟨ret_i HV2.out.symm, rfl⟩
set_option maxHeartbeats 1000000 in
theorem i_sums (bt : Nat) (w : World) :
    Calls Try.prog 54 #[.pointer (some ⟨bt, 0, none⟩)] w fun e w' => e = .returned (.func (.func 79) #[] #[.pointer (some ⟨w.heap.size, 0, none⟩)]) ∧ w' = w.alloc (.cells #[.pointer (some ⟨bt, 0, none⟩)] 99) := by
  go_enter Try.func54, Try.ntmps54
  go_wp2
  go_ret
  exact ⟨rfl, rfl⟩

set_option maxHeartbeats 4000000 in
theorem i_PairAnswer (A : Option Addr) (n c : Nat) (xs : List Int) (A' : Option Addr) (n' c' : Nat) (ss : List Bool) (w : World) (h : Rd w w.heap.size 1 A n (cI xs)) (hn : n ≤ 1048576) (h' : Rd w w.heap.size 1 A' n' (cB ss)) (hn' : n' ≤ 1048576) :
    Calls Try.prog 27 #[.slice A n c, .slice A' n' c'] w fun e w' => e = .returned (.tuple #[.int .i64 (answV xs ss), .bool (answB xs ss)]) ∧ Below w.heap.size w w' := by
  have HL := Lib.hid h.len
  have HL' := Lib.hid h'.blen
  have HR := Lib.hid h
  have HR' := Lib.hid h'
  clear h h'
  go_enter Try.func27, Try.ntmps27
  go_wp2_with fail
  refine (i_TableOk _ _ _ _ _ HR.out hn).mono ?_
  rintro e w' ⟨rfl, rfl⟩
  cases e1 : tabB xs
  · have HF : Hid (answV xs ss = 0 ∧ answB xs ss = false) := Lib.hid (by simp [answV, answB, e1])
    go_wp2
    go_ret2
    exact ⟨ret_ib2 HF.out.1.symm HF.out.2.symm, Below.refl _ _⟩
  have hp := e1
  simp only [tabB, Bool.and_eq_true, inB_iff] at hp
  rw [HL.out] at hp
  obtain ⟨⟨n1, n16⟩, hN⟩ := hp
  by_cases hnn : n' = n
  · subst hnn
    have HB : Hid (answB xs ss = true) := Lib.hid (by simp [answB, e1, HL.out, HL'.out])
    have HV : Hid (answV xs ss = setK xs ss n') := Lib.hid (by rw [answV, if_pos HB.out, HL.out])
    have HN := Lib.hid (nums_of_B hN)
    clear e1 hN
    have hnz : ¬ n' = 0 := by omega
    obtain ⟨w1, HW1⟩ : ∃ w1, Hid (w.alloc (.cells #[.slice A n' c] 65) = w1) := ⟨_, Lib.hid rfl⟩
    have HB1 : Hid (Below w.heap.size w w1) := Lib.hid (HW1.out ▸ (Below.refl _ _).alloc (Nat.le_refl _) _)
    have HX1 : Hid (Bx w1 w.heap.size #[.slice A n' c] 65) := Lib.hid (HW1.out ▸ Bx.new _ _ _)
    go_wp2_with fail
    rw [HW1.out]
    refine (i_sums _ _).mono ?_
    rintro e w2 ⟨rfl, hw2⟩
    have HB2 : Hid (Below w.heap.size w w2) := Lib.hid (by rw [hw2]; exact HB1.out.alloc HB1.out.size _)
    have c1 : w2.cell? ⟨w1.heap.size, 0, none⟩ = some (.pointer (some ⟨w.heap.size, 0, none⟩)) := by rw [hw2]; exact (Bx.new _ _ _).cell 0
    have c2 : w2.cell? ⟨w.heap.size, 0, none⟩ = some (.slice A n' c) := by rw [hw2]; exact (HX1.out.alloc _).cell 0
    clear hw2
    go_wp2_with fail
    refine (i_sums1 _ _ A n' c xs A' c' ss w2 c1 c2 ((HR.out.below HB2.out).more HB2.out.size) (by omega) ((HR'.out.below HB2.out).more HB2.out.size) HN.out).mono ?_
    rintro e w' ⟨rfl, rfl⟩
    go_wp2
    go_ret2
    exact ⟨ret_ib2 HV.out.symm HB.out.symm, HB2.out⟩
  · have q0 : ((n' : Int) != (n : Int)) = true := by rw [bne_iff_ne]; omega
    have q1 : ¬ (n' : Int) = (n : Int) := by omega
    have HF : Hid (answV xs ss = 0 ∧ answB xs ss = false) := Lib.hid (by simp [answV, answB, e1, HL.out, HL'.out, hnn])
    clear e1 hN
    go_wp2
    go_ret2
    exact ⟨ret_ib2 HF.out.1.symm HF.out.2.symm, Below.refl _ _⟩
theorem X_s_PairAnswer (v v' : Value) (d : List Int) (d' : List Bool) (w : World) (h : RdIntS w w.heap.size v d) (h' : RdBoolS w w.heap.size v' d') (hs : szIntS d ≤ 1048576) (hs' : szBoolS d' ≤ 1048576) :
    Calls Try.prog 26 #[v, v'] w fun e w' => e = .returned (.tuple #[.int .i64 (answV d d'), .bool (answB d d')]) ∧ Below w.heap.size w w' := by
  obtain ⟨A, n, c, rfl, _, r⟩ := h
  obtain ⟨A', n', c', rfl, _, r'⟩ := h'
  exact s_PairAnswer A n c d A' n' c' d' w r (by have := r.len; unfold szIntS at hs; omega) r' (by have := r'.blen; unfold szBoolS at hs'; omega)
theorem X_i_PairAnswer (v v' : Value) (d : List Int) (d' : List Bool) (w : World) (h : RdIntS w w.heap.size v d) (h' : RdBoolS w w.heap.size v' d') (hs : szIntS d ≤ 1048576) (hs' : szBoolS d' ≤ 1048576) :
    Calls Try.prog 27 #[v, v'] w fun e w' => e = .returned (.tuple #[.int .i64 (answV d d'), .bool (answB d d')]) ∧ Below w.heap.size w w' := by
  obtain ⟨A, n, c, rfl, _, r⟩ := h
  obtain ⟨A', n', c', rfl, _, r'⟩ := h'
  exact i_PairAnswer A n c d A' n' c' d' w r (by have := r.len; unfold szIntS at hs; omega) r' (by have := r'.blen; unfold szBoolS at hs'; omega)
end Go.Proofs.Ytbabkaofhhaneaa

/- Chapter 4: the iterator and the list over given's closure (made from XWalk5g, XWalk5h by tools/gen5.py) -/
namespace Go.Proofs.Ytbabkaofhhaneaa
open Go.RowKit Go.Shelf
set_option maxRecDepth 100000
attribute [local go_sem] Oper.semAt_some

set_option maxHeartbeats 2000000 in
theorem i_it_given (b1 l Bn Bs n₀ cnt m : Nat) (hm : 1 ≤ m) (f : Nat → Int × Int) (w0 : World)
    (hS : ∀ W k, Below n₀ w0 W → k < cnt → Calls Try.prog 83 #[.int .i64 k, .pointer (some ⟨b1, 0, none⟩)] W fun e W' => e = .returned (.agg #[.int .i64 (f k).1, .int .i64 (f k).2]) ∧ Below W.heap.size W W')
    (hcnt : cnt ≤ 1048576) (J Jx : List (Int × Int) → World → Prop) (W : World) (hJ : AbidesFrom W.heap.size J)
    (hY : ∀ pre x W1, J pre W1 → pre.length < cnt → YieldAt Fence.wide (m - 1) Try.prog l (encP x) W1 fun e W' =>
      (e = .returned (.bool true) ∧ J (pre ++ [x]) W' ∧ KpS n₀ Bs (.func (.func 83) #[] #[.pointer (some ⟨b1, 0, none⟩)]) W1 W') ∨ (e = .returned (.bool false) ∧ Jx (pre ++ [x]) W'))
    (hBn : W.cell? ⟨Bn, 0, none⟩ = some (.int .i64 cnt)) (hBs : Boxed W Bs 101 (.func (.func 83) #[] #[.pointer (some ⟨b1, 0, none⟩)])) (hn₀ : n₀ ≤ W.heap.size) (hbel : Below n₀ w0 W) (h0 : J [] W) :
    CallsIn Fence.wide m Try.prog 104 #[.func (.yield l) #[] #[], .pointer (some ⟨Bn, 0, none⟩), .pointer (some ⟨Bs, 0, none⟩)] W fun e W' => (∃ v, e = .returned v) ∧
      ((∃ ys, ys = uptoF f cnt ∧ J ys W') ∨ (∃ pre, True ∧ Jx pre W')) := by
  have hm1 : 1 ≤ m := hm
  refine callsIn_of_wp Try.func104 rfl trivial ?_ rfl
  simp only [Try.ntmps104, List.size_toArray, List.length_cons, List.length_nil, Nat.reduceAdd, Nat.reduceSub, Array.replicate_succ, Array.replicate_zero, List.push_toArray, List.append_toArray, List.nil_append, List.cons_append]
  gi_wp2
  gi_loopw [6] (fun i wr => ∃ k : Nat, k ≤ cnt ∧ i = .int .i64 k ∧ J (uptoF f k) wr ∧ Hid (Below n₀ w0 wr) ∧ Hid (n₀ ≤ wr.heap.size) ∧ Hid (Boxed wr Bs 101 (.func (.func 83) #[] #[.pointer (some ⟨b1, 0, none⟩)])))
    (fun i _ => cnt - (intOf i).toNat)
  case atStart => exact ⟨0, Nat.zero_le _, rfl, h0, Lib.hid hbel, Lib.hid hn₀, Lib.hid hBs⟩
  case round =>
    obtain ⟨k, hk, rfl, hJs, HBL, HZ, HBS⟩ := hrel
    by_cases hlt : k < cnt
    · have hcs := HBS.out.cell
      have i0 : (0 : Int) ≤ (k : Int) := by omega
      have i1 : (k : Int) < (cnt : Int) := by omega
      gi_wp2_with (refine ⟨trivial, ?_⟩
                   gi_at_call 83
                   refine (callsIn_wide.2 (hS _ k HBL.out hlt)).mono ?_
                   rintro e W1 ⟨rfl, hb1⟩
                   have hJ1 := hJ _ _ _ none hJs (grown_of_below hb1) (fun r e => by cases e)
                   have HBS1 : Hid (Boxed W1 Bs 101 (.func (.func 83) #[] #[.pointer (some ⟨b1, 0, none⟩)])) := Lib.hid (HBS.out.kept (grown_of_below hb1) (by simp))
                   have HBL1 : Hid (Below n₀ w0 W1) := Lib.hid (HBL.out.trans (hb1.mono HZ.out))
                   have HZ1 : Hid (n₀ ≤ W1.heap.size) := Lib.hid (Nat.le_trans HZ.out hb1.size)
                   obtain ⟨fn, tmps, assign, body, hy, hR⟩ := hY _ (f k) W1 hJ1 (by rw [uptoF_length]; exact hlt)
                   simp only [encP] at hy
                   clear hb1 HBL HZ HBS hJs hcs)
      refine hR.mono ?_
      rintro e W3 (⟨rfl, hJ3, hk3⟩ | ⟨rfl, hJx3⟩)
      · have HK3 := Lib.hid hk3
        clear hk3
        gi_wp2
        go_roundw
        case rel => exact ⟨k + 1, by omega, by go_num, by rw [uptoF_succ]; exact hJ3, Lib.hid (HBL1.out.trans HK3.out.1), Lib.hid (Nat.le_trans HZ1.out HK3.out.1.size), Lib.hid (HK3.out.2 HBS1.out)⟩
        case measure => simp [intOf] <;> omega
      · gi_wp2
        refine bodyPost_ret (results_none rfl _ _ _) rfl ?_
        exact ⟨⟨_, rfl⟩, .inr ⟨_, trivial, hJx3⟩⟩
    · obtain rfl : k = cnt := by omega
      gi_wp2
      go_end0
      exact ⟨⟨_, rfl⟩, .inl ⟨_, rfl, hJs⟩⟩
theorem stops_given (b1 Bn Bs n₀ cnt m : Nat) (hm : 1 ≤ m) (f : Nat → Int × Int) (w0 w : World)
    (hS : ∀ W k, Below n₀ w0 W → k < cnt → Calls Try.prog 83 #[.int .i64 k, .pointer (some ⟨b1, 0, none⟩)] W fun e W' => e = .returned (.agg #[.int .i64 (f k).1, .int .i64 (f k).2]) ∧ Below W.heap.size W W')
    (hcnt : cnt ≤ 1048576) (hlt : Bn < w.heap.size) (hBn : w.cell? ⟨Bn, 0, none⟩ = some (.int .i64 cnt)) (hBs : Boxed w Bs 101 (.func (.func 83) #[] #[.pointer (some ⟨b1, 0, none⟩)])) (hn₀ : n₀ ≤ w.heap.size) (hbel : Below n₀ w0 w) :
    SeqStopsK Fence.wide m Try.prog 104 #[.pointer (some ⟨Bn, 0, none⟩), .pointer (some ⟨Bs, 0, none⟩)] encP (KpS n₀ Bs (.func (.func 83) #[] #[.pointer (some ⟨b1, 0, none⟩)])) (fun ys => ys = uptoF f cnt) (fun _ => True) cnt w := fun l J Jx W hW hJ _ hY h0 =>
  i_it_given b1 l Bn Bs n₀ cnt m hm f w0 hS hcnt J Jx W hJ hY ((hW.cell (p := ⟨Bn, 0, none⟩) hlt).trans hBn) ((hW.block Bs hBs.lt).trans hBs) (Nat.le_trans hn₀ hW.size) (hbel.trans (hW.mono hn₀)) h0

set_option maxHeartbeats 4000000 in
theorem i_listed_given (b1 cnt : Nat) (hcnt : cnt ≤ 1048576) (f : Nat → Int × Int) (w : World)
    (hS : ∀ W k, Below w.heap.size w W → k < cnt → Calls Try.prog 83 #[.int .i64 k, .pointer (some ⟨b1, 0, none⟩)] W fun e W' => e = .returned (.agg #[.int .i64 (f k).1, .int .i64 (f k).2]) ∧ Below W.heap.size W W') :
    Calls Try.prog 82 #[.int .i64 cnt, .func (.func 83) #[] #[.pointer (some ⟨b1, 0, none⟩)]] w fun e w' => ∃ g, e = .returned g ∧ OwPointS w' w.heap.size w'.heap.size g (uptoF f cnt) ∧ Below w.heap.size w w' := by
  refine (callsIn_wide (n := 9)).1 ?_
  obtain ⟨i0, hi, hz0, hz1, hz2⟩ := info_parts info_pt
  have hmk := fun W => run_make0 (P := Try.prog) Try.underlying48 info_pt cnt (by omega) (by omega) W
  have hcap : (madeCells (Value.agg #[.int .i64 0, .int .i64 0]).cells (cnt * 2)).size = cnt * 2 := madeCells_size _ _
  obtain ⟨cs, hcs⟩ : ∃ cs, madeCells (Value.agg #[.int .i64 0, .int .i64 0]).cells (cnt * 2) = cs := ⟨_, rfl⟩
  rw [hcs] at hmk hcap
  have HCAP := Lib.hid hcap
  clear hcs hcap
  have c0 : (0 : Int) ≤ (cnt : Int) := by omega
  refine callsIn_of_wp_marks Try.func82 rfl trivial ?_ rfl
  simp only [Try.ntmps82, List.size_toArray, List.length_cons, List.length_nil, Nat.reduceAdd, Nat.reduceSub, Array.replicate_succ, Array.replicate_zero, List.push_toArray, List.append_toArray, List.nil_append, List.cons_append]
  gi_wp2_with (refine ⟨trivial, ?_⟩
               gi_at_call 98
               refine (callsIn_wide.2 (i_shares _ _ _ _ _)).mono ?_
               rintro e w' ⟨rfl, rfl⟩)
  have bL := ((Boxed.new (w.alloc (.cells cs 78)) 48 (.slice (some ⟨w.heap.size, 0, none⟩) 0 cnt)).alloc (.cells #[.int .i64 cnt] 3)).alloc (.cells #[(.func (.func 83) #[] #[.pointer (some ⟨b1, 0, none⟩)])] 101)
  have bN := (Boxed.new ((w.alloc (.cells cs 78)).alloc (.cells #[.slice (some ⟨w.heap.size, 0, none⟩) 0 cnt] 48)) 3 (.int .i64 cnt)).alloc (.cells #[(.func (.func 83) #[] #[.pointer (some ⟨b1, 0, none⟩)])] 101)
  have bS := Boxed.new (((w.alloc (.cells cs 78)).alloc (.cells #[.slice (some ⟨w.heap.size, 0, none⟩) 0 cnt] 48)).alloc (.cells #[.int .i64 cnt] 3)) 101 (.func (.func 83) #[] #[.pointer (some ⟨b1, 0, none⟩)])
  have hrow := (((own_make0 w cs 78 2 cnt HCAP.out (by unfold maxLen; omega)).alloc (.cells #[.slice (some ⟨w.heap.size, 0, none⟩) 0 cnt] 48)).alloc (.cells #[.int .i64 cnt] 3)).alloc (.cells #[(.func (.func 83) #[] #[.pointer (some ⟨b1, 0, none⟩)])] 101)
  simp only [World.size_alloc] at bL bN bS
  have hB0 := ((((Below.refl w.heap.size w).alloc (Nat.le_refl _) (.cells cs 78)).alloc (by simp) (.cells #[.slice (some ⟨w.heap.size, 0, none⟩) 0 cnt] 48)).alloc (by simp; omega) (.cells #[.int .i64 cnt] 3)).alloc (by simp; omega) (.cells #[(.func (.func 83) #[] #[.pointer (some ⟨b1, 0, none⟩)])] 101)
  have hsz : ((((w.alloc (.cells cs 78)).alloc (.cells #[.slice (some ⟨w.heap.size, 0, none⟩) 0 cnt] 48)).alloc (.cells #[.int .i64 cnt] 3)).alloc (.cells #[(.func (.func 83) #[] #[.pointer (some ⟨b1, 0, none⟩)])] 101)).heap.size = w.heap.size + 4 := by simp
  obtain ⟨W0, hW0⟩ : ∃ W0, (((w.alloc (.cells cs 78)).alloc (.cells #[.slice (some ⟨w.heap.size, 0, none⟩) 0 cnt] 48)).alloc (.cells #[.int .i64 cnt] 3)).alloc (.cells #[(.func (.func 83) #[] #[.pointer (some ⟨b1, 0, none⟩)])] 101) = W0 := ⟨_, rfl⟩
  rw [hW0] at bL bN bS hrow hB0 hsz ⊢
  clear hW0 hmk
  refine wpIn_rangeFunc_ownH rfl (by decide) (gf := 104) (lb := #[.pointer (some ⟨w.heap.size + 1 + 1, 0, none⟩), .pointer (some ⟨w.heap.size + 1 + 1 + 1, 0, none⟩)]) rfl trivial (enters_of Try.func104 (by kernel_rfl) rfl)
    (stops_given b1 (w.heap.size + 1 + 1) (w.heap.size + 1 + 1 + 1) w.heap.size cnt (9 - 1) (by decide) f w W0 hS hcnt (by omega) bN.cell bS (by omega) hB0) KpS_t (KpS_b (by omega)) (Below.refl _ _) (fun _ => rfl)
    (fun pre W => ((∃ v, Boxed W (w.heap.size + 1) 48 v ∧ W.ownsRow w.heap.size 78 2 v pre.length (cP pre) ∧ True) ∧ Below w.heap.size w W))
    (fun _ _ _ => False)
    (OwnFrom.and (Own.from (holdsRow_own w.heap.size (w.heap.size + 1) 48 78 2 (fun (pre : List (Int × Int)) => pre.length) (fun pre => cP pre) (fun _ _ => True)) _) (ownFrom_below (Nat.le_refl _) (by omega)))
    (fun _ _ _ _ _ hs _ _ => hs)
    ⟨⟨_, bL, hrow, trivial⟩, hB0⟩
    (fun x a' W => ∃ Bx, w.heap.size ≤ Bx ∧ W.heap[Bx]? = some (.cells #[.int .i64 x.1, .int .i64 x.2] 78 (0, 0)) ∧ a' = { tmps := #[.int .i64 cnt, (.func (.func 83) #[] #[.pointer (some ⟨b1, 0, none⟩)]), undef, undef, .slice none 0 0, .pointer (some ⟨w.heap.size + 1, 0, none⟩), .pointer (some ⟨Bx, 0, none⟩), .int .i64 cnt, .slice (some ⟨w.heap.size, 0, none⟩) 0 cnt, .int .i64 cnt, (.func (.func 83) #[] #[.pointer (some ⟨b1, 0, none⟩)]), .func (.func 104) #[] #[.pointer (some ⟨w.heap.size + 1 + 1, 0, none⟩), .pointer (some ⟨w.heap.size + 1 + 1 + 1, 0, none⟩)], .agg #[.int .i64 x.1, .int .i64 x.2], undef, undef, undef, undef, undef], defers := [] })
    (fun x a' _ X Y row hs hg hr => by
      obtain ⟨Bx, h1, h2, h3⟩ := hs
      refine ⟨Bx, h1, (hg.block Bx (Array.getElem?_eq_some_iff.1 h2).1 (fun e => ?_)).trans h2, h3⟩
      obtain ⟨_, o, ho, hc⟩ := hr Bx e.symm
      rw [h2] at ho; cases ho; cases hc)
    ?assign ?body ?done ?stop
  case assign =>
    rintro l pre x W K ⟨⟨v, hv, hr, _⟩, hB⟩ hK
    simp only [encP]
    gi_wp2
    exact hK _ _ ((KeepsOthers.alloc _ _).from _) ⟨(Below.refl _ W).alloc hB.size _, fun h => h.alloc _⟩ ⟨⟨v, hv.alloc _, hr.alloc _, trivial⟩, hB.alloc hB.size _⟩ ⟨W.heap.size, hB.size, heap_alloc_new _ _, rfl⟩
  case body =>
    rintro l pre x a' W hl ⟨r, hr⟩ ⟨⟨v, hv, hrow, _⟩, hB⟩ ⟨Bx, hBx, bX, rfl⟩ hlt
    have cL := hv.cell
    have cX0 : W.cell? ⟨Bx, 0, none⟩ = some (.int .i64 x.1) := by rw [cell_of_row W Bx 0 _ _ _ bX]; rfl
    have cX1 : W.cell? ⟨Bx, 1, none⟩ = some (.int .i64 x.2) := by rw [cell_of_row W Bx 1 _ _ _ bX]; rfl
    gi_wp2_with (gi_at_builtin
                 refine wpListIn_append_own _ rfl _ _ 48 rfl w.heap.size 78 i0 _ 2 16 Try.underlying48 hi hz0 hz1 hz2 rfl (by decide) _ _ _ rfl (hrow.alloc _) ⟨W.heap.size, 0, none⟩ 1 1 [.int .i64 x.1, .int .i64 x.2] rfl rfl (cell_two_new _ _ _ _) (by simp [Value.oneCell']) (by unfold maxLen; omega) (by omega) (by have := hB.size; simp; omega) ?_
                 intro v' w1 hown' hgrow _
                 obtain ⟨g', cap', rfl⟩ := ownsRow_succ hown'
                 obtain ⟨hv1, hv2, hr2, hk2, hb2⟩ := hv.appended (by decide) hrow hB.size (by omega) hown' hgrow
                 have hc1 := hv1.cell
                 have hf1 := hv1.frozen
                 have hbs : Boxed W (w.heap.size + 1 + 1 + 1) 101 (.func (.func 83) #[] #[.pointer (some ⟨b1, 0, none⟩)]) → Boxed (w1.setCell ⟨w.heap.size + 1, 0, none⟩ (.slice (some ⟨g', 0, none⟩) (pre.length + 1) cap')) (w.heap.size + 1 + 1 + 1) 101 (.func (.func 83) #[] #[.pointer (some ⟨b1, 0, none⟩)]) := fun h =>
                   ((h.alloc _).kept hgrow (h.not_row (by decide) hrow)).other (by omega) _)
    exact ⟨hk2.from _, ⟨hb2, hbs⟩, ⟨⟨_, hv2, by rw [cP_append, List.length_append]; exact hr2, trivial⟩, hB.trans hb2⟩⟩
  case done =>
    rintro D ys W hD rfl ⟨⟨v, hv, hrow, _⟩, hB⟩ hK
    have cL := hv.cell
    gi_wp2
    refine ⟨by simp, .inl ⟨_, _, rfl, run_takeDeferred hK, ?_⟩⟩
    refine ⟨_, results_tmp rfl _ _ _, v, rfl, ?_, hB.trans (belowK_b (w := w) (Nat.le_refl _) W D _ _ (by omega) hK rfl rfl)⟩
    exact done_pts (ownsRow_putObj hrow _ hK rfl) (by rw [uptoF_length]; exact hcnt)
  case stop =>
    rintro D c pre W _ _ h _
    exact h.elim
end Go.Proofs.Ytbabkaofhhaneaa

/- append where the two types differ in name. -/
namespace Go.Proofs.Ytbabkaofhhaneaa
open Go.RowKit

theorem append_types {P : Program} {t t2 ty e e2 : TypeId} (ht : P.underlying t = some (.slice e)) (ht2 : P.underlying t2 = some (.slice e2)) (args : Array Value) (w : World) :
    (Builtin.append_ #[t, t2] ty args).run P w = (Builtin.append_ #[t, t] ty args).run P w := by
  unfold Builtin.append_
  cases args[0]? <;> cases args[1]? <;> simp [run_underlying ht]
  split <;> simp [run_underlying ht, run_underlying ht2]
theorem wpList_append_rd2 {P : Program} {w : World} {ops : Array Oper} {rest : List Oper} {o : Oper} {a : Act} {Q : Exit → Act → World → Prop} (hgd : o.guard = none) (s x : Operand) (t t2 e2 : TypeId)
    (ho : o.op = .call { callee := .builtin .append, args := #[s, x], argTypes := #[t, t2] })
    (base : Nat) (e : TypeId) (z : Value) (size bytes : Nat) (ht : P.underlying t = some (.slice e)) (ht2 : P.underlying t2 = some (.slice e2)) (hi : (P.info? e).map (fun i => (i.zero, i.size, i.bytes)) = some (some z, size, bytes))
    (hzs : z.cells.size = size) (hsz : 0 < size) (v : Value) (n : Nat) (xs : List Value) (hs : a.eval s = v) (hown : w.ownsRow base e size v n xs)
    (hb : Nat) (A : Option Addr) (m c : Nat) (news : List Value) (hx : a.eval x = .slice A m c) (hr : Rd w hb size A m news) (h1 : ∀ u ∈ news, u.oneCell' = true)
    (h63 : n + m ≤ maxLen) (hbytes : (n + m) * bytes ≤ 140737488355328) (hbase : base ≤ w.heap.size)
    (h : ∀ v' w', w'.ownsRow base e size v' (n + m) (xs ++ news) → w.grownBy w' v.ownBlock → (v'.ownBlock = v.ownBlock ∨ v'.ownBlock = some w.heap.size) → wpList P ops Q rest (a.put o.dst v') w') :
    wpList P ops Q (o :: rest) a w := by
  refine wpList_plain hgd fun K hK => ?_
  obtain ⟨v', w', hrun, h2, h3, h4⟩ := run_append_rd (P := P) (w := w) base t o.type e z size bytes ht hi hzs hsz v n xs hown hb A m c news hr h1 h63 hbytes hbase
  rw [← append_types ht ht2] at hrun
  unfold Oper.wp execOp
  simp only [ho, resolve, invoke, builtin, Sem.run_bind, Sem.run_pure, Result.andThen_ok, List.map_toArray, List.map_cons, List.map_nil, hs, hx, hrun]
  exact hK _ _ (h v' w' h2 h3 h4)
end Go.Proofs.Ytbabkaofhhaneaa

/- Chapter 4: SharesOf, in the model and in the program. -/
namespace Go.Proofs.Ytbabkaofhhaneaa
open Go.RowKit Go.Shelf
set_option maxRecDepth 100000

set_option maxHeartbeats 1000000 in
theorem i_secretWith (s : Int) (A : Option Addr) (m c : Nat) (zs : List Int) (w : World) (h : Rd w w.heap.size 1 A m (cI zs)) (hm : m ≤ 1000) :
    Calls Try.prog 61 #[.int .i64 s, .slice A m c] w fun e w' => ∃ A' c', e = .returned (.slice A' (1 + m) c') ∧ Ow w' w.heap.size w'.heap.size 3 1 A' (1 + m) c' (cI (s :: zs)) ∧ Below w.heap.size w w' := by
  have HLIT := Lib.hid (lit_int w s)
  have HRD : Hid (Rd (w.alloc (.cells #[.int .i64 s] 3)) w.heap.size 1 A m (cI zs)) := Lib.hid (h.below ((Below.refl _ _).alloc (Nat.le_refl _) _))
  clear h
  go_enter Try.func61, Try.ntmps61
  go_wp2_with (at_builtin
               refine wpList_append_rd2 rfl (.tmp 6) (.tmp 7) 75 22 3 rfl w.heap.size 3 _ 1 8 Try.underlying75 Try.underlying22 info_int rfl (by decide) (.slice (some ⟨w.heap.size, 0, none⟩) 1 1) 1 [.int .i64 s] rfl HLIT.out _ A m c (cI zs) rfl HRD.out (cI_one _) (by unfold maxLen; omega) (by omega) (by simp) ?_
               intro v5 w5 hown hgr hat
               obtain ⟨A5, c5, hv5, ho5⟩ := Ow.of_own hown
               subst hv5
               have HO5 : Hid (Ow w5 w.heap.size w5.heap.size 3 1 A5 (1 + m) c5 (cI (s :: zs))) := Lib.hid ho5
               have HB5 : Hid (Below w.heap.size w w5) := Lib.hid (below_grown ((Below.refl _ _).alloc (Nat.le_refl _) _) hgr (fun g e => by simp [Value.ownBlock] at e; omega) (by simp))
               clear hown hgr hat ho5)
  go_ret
  exact ⟨_, _, rfl, HO5.out, HB5.out⟩

set_option maxHeartbeats 1000000 in
theorem i_given1 (b1 : Nat) (A : Option Addr) (n c k : Nat) (cs : List Int) (w : World) (hb1 : w.cell? ⟨b1, 0, none⟩ = some (.slice A n c)) (hl1 : b1 < w.heap.size) (H : Rd w w.heap.size 1 A n (cI cs)) (hn : n ≤ 1048576) (hz : Nums cs) (hk : k < 20) :
    Calls Try.prog 83 #[.int .i64 k, .pointer (some ⟨b1, 0, none⟩)] w fun e w' => e = .returned (.agg #[.int .i64 (shF cs k).1, .int .i64 (shF cs k).2]) ∧ Below w.heap.size w w' := by
  have HB := (Below.refl w.heap.size w).alloc (Nat.le_refl _) (.cells #[.int .i64 0, .int .i64 0] 78)
  have hc1 := (HB.cell (p := ⟨b1, 0, none⟩) hl1).trans hb1
  have HRD := Lib.hid ((H.below HB).more (show w.heap.size ≤ (w.alloc (.cells #[.int .i64 0, .int .i64 0] 78)).heap.size by simp))
  have HBB := Lib.hid HB
  have hn0 : (w.alloc (.cells #[.int .i64 0, .int .i64 0] 78)).cell? ⟨w.heap.size, 0, none⟩ = some (.int .i64 0) := World.cell?_alloc_new w _ _ 0
  have hn1 : (w.alloc (.cells #[.int .i64 0, .int .i64 0] 78)).cell? ⟨w.heap.size, 1, none⟩ = some (.int .i64 0) := World.cell?_alloc_new w _ _ 1
  have hf := fun j => (Ow.new w #[.int .i64 0, .int .i64 0] 78 2 1 rfl).free (by omega) j
  have HNU := Lib.hid hz
  clear H HB hz
  have i0 : (0 : Int) ≤ (k : Int) := by omega
  have i1 : (k : Int) < 20 := by omega
  have hf0 := hf 0
  have hf1 := hf 1
  clear hf
  obtain ⟨W1, HW1⟩ : ∃ W1, Hid (w.alloc (.cells #[.int .i64 0, .int .i64 0] 78) = W1) := ⟨_, Lib.hid rfl⟩
  have HC1 := Lib.hid hc1
  have HN0 := Lib.hid (And.intro hn0 (And.intro hn1 (And.intro hf0 hf1)))
  clear hc1 hn0 hn1 hf0 hf1
  rw [HW1.out] at HC1 HN0 HBB HRD
  go_enter Try.func83, Try.ntmps83
  go_wp2_with fail
  rw [HW1.out]
  clear hb1
  refine (i_polynomial_at _ _ _ _ _ _ HRD.out HNU.out hn (by omega) (by omega)).mono ?_
  rintro e w2 ⟨rfl, q, rfl⟩
  obtain ⟨hn0, hn1, hf0, hf1⟩ := HN0.out
  go_wp2
  refine bodyPost_ret (v := .agg #[.int .i64 ((k : Int) + 1), .int .i64 (atI cs ((k : Int) + 1))]) (by simp [results, Try.results83, go_sem, hn0, hn1]) rfl ⟨rfl, ?_⟩
  exact ((below_drewN HBB.out q).setCell (p := ⟨w.heap.size, 0, none⟩) (Nat.le_refl _) _).setCell (p := ⟨w.heap.size, 1, none⟩) (Nat.le_refl _) _

set_option maxHeartbeats 1000000 in
theorem i_given (A : Option Addr) (n c N : Nat) (cs : List Int) (w : World) (H : Rd w w.heap.size 1 A n (cI cs)) (hn : n ≤ 1048576) (hz : Nums cs) (hN : N ≤ 20) :
    Calls Try.prog 60 #[.slice A n c, .int .i64 N] w fun e w' => ∃ g, e = .returned g ∧ OwPointS w' w.heap.size w'.heap.size g (uptoF (shF cs) N) ∧ Below w.heap.size w w' := by
  obtain ⟨w0, HW0⟩ : ∃ w0, Hid (w.alloc (.cells #[.slice A n c] 75) = w0) := ⟨_, Lib.hid rfl⟩
  have HB0 : Hid (Below w.heap.size w w0) := Lib.hid (HW0.out ▸ (Below.refl _ _).alloc (Nat.le_refl _) _)
  have HZ0 : Hid (w0.heap.size = w.heap.size + 1) := Lib.hid (by rw [← HW0.out]; simp)
  have HRD : Hid (Rd w0 w0.heap.size 1 A n (cI cs)) := Lib.hid ((H.below HB0.out).more (by have := HZ0.out; omega))
  have HC1 : Hid (w0.cell? ⟨w.heap.size, 0, none⟩ = some (.slice A n c)) := Lib.hid (by rw [← HW0.out]; exact (Boxed.new w _ _).cell)
  clear H
  go_enter Try.func60, Try.ntmps60
  go_wp2_with fail
  rw [HW0.out]
  refine (i_listed_given w.heap.size N (by omega) (shF cs) _ (fun W k hW hk => ?_)).mono ?_
  · exact i_given1 w.heap.size A n c k cs W ((hW.cell (p := ⟨w.heap.size, 0, none⟩) (by have := HZ0.out; simp; omega)).trans HC1.out) (by have := HZ0.out; have := hW.size; omega) ((HRD.out.below hW).more hW.size) hn hz (by omega)
  · rintro e w3 ⟨g, rfl, ho, hb3⟩
    have HO := Lib.hid (ho.widen (show w.heap.size ≤ _ by have := HZ0.out; omega) (Nat.le_refl _))
    have HB3 := Lib.hid (HB0.out.trans (hb3.mono (by have := HZ0.out; omega)))
    clear ho hb3
    go_wp2
    go_ret
    exact ⟨_, rfl, HO.out, HB3.out⟩
end Go.Proofs.Ytbabkaofhhaneaa

/- Chapter 12: points out of numbers; ManyTake, ManyAnswer, ManyAsk of both sides. Made by tools/gen12/many.py. -/
namespace Go.Proofs.Ytbabkaofhhaneaa
open Go.RowKit
set_option maxRecDepth 100000

set_option maxHeartbeats 1000000 in
theorem i_pts1 (b1 b2 : Nat) (A : Option Addr) (n c k f : Nat) (xs : List Int) (w : World) (hb1 : w.cell? ⟨b1, 0, none⟩ = some (.int .i64 f)) (hb2 : w.cell? ⟨b2, 0, none⟩ = some (.slice A n c))
    (hl1 : b1 < w.heap.size) (hl2 : b2 < w.heap.size) (H : Rd w w.heap.size 1 A n (cI xs)) (hf : f ≤ 1) (hn : n ≤ 1048576) (hk : k < n) :
    Calls Try.prog 92 #[.int .i64 k, .pointer (some ⟨b1, 0, none⟩), .pointer (some ⟨b2, 0, none⟩)] w fun e w' => e = .returned (.agg #[.int .i64 ((f + k : Nat) : Int), .int .i64 (xs.getD k 0)]) ∧ Below w.heap.size w w' := by
  obtain ⟨a, x, rfl, hab, hx0, HX⟩ := H.intAt hk
  rw [← HX.out]
  obtain ⟨s, hs⟩ : ∃ s : Int, ((f + k : Nat) : Int) = s := ⟨_, rfl⟩
  have hs2 : (f : Int) + (k : Int) = s := by omega
  have iw : IntKind.i64.wrap s = s := IntWalk.i64_in _ (by omega)
  rw [hs]
  have HB := (Below.refl w.heap.size w).alloc (Nat.le_refl _) (.cells #[.int .i64 0, .int .i64 0] 78)
  have hc1 := (HB.cell (p := ⟨b1, 0, none⟩) hl1).trans hb1
  have hc2 := (HB.cell (p := ⟨b2, 0, none⟩) hl2).trans hb2
  have hx := (HB.cell (p := a.add k) (by rw [add_block]; exact hab)).trans hx0
  have HBB := Lib.hid HB
  have hn0 : (w.alloc (.cells #[.int .i64 0, .int .i64 0] 78)).cell? ⟨w.heap.size, 0, none⟩ = some (.int .i64 0) := World.cell?_alloc_new w _ _ 0
  have hn1 : (w.alloc (.cells #[.int .i64 0, .int .i64 0] 78)).cell? ⟨w.heap.size, 1, none⟩ = some (.int .i64 0) := World.cell?_alloc_new w _ _ 1
  have hfz := fun j => (Ow.new w #[.int .i64 0, .int .i64 0] 78 2 1 rfl).free (by omega) j
  clear HX hb1 hb2 hx0 H HB hs
  have i0 : (0 : Int) ≤ (k : Int) := by omega
  have i1 : (k : Int) < (n : Int) := by omega
  go_enter Try.func92, Try.ntmps92
  go_wp2
  have hf0 := hfz 0
  have hf1 := hfz 1
  clear hfz
  obtain ⟨W1, hW1⟩ : ∃ W1, (w.alloc (.cells #[.int .i64 0, .int .i64 0] 78)) = W1 := ⟨_, rfl⟩
  rw [hW1] at hc1 hc2 hx hn0 hn1 hf0 hf1 HBB ⊢
  clear hW1
  go_still_tail 8, (by kernel_rfl)
  change wpList _ _ _ _ _ W1.drew
  go_wp2
  refine bodyPost_ret (v := .agg #[.int .i64 s, .int .i64 x]) (by simp [results, Try.results92, go_sem, hn0, hn1]) rfl ⟨rfl, ?_⟩
  exact below_drew ((HBB.out.setCell (p := ⟨w.heap.size, 0, none⟩) (Nat.le_refl _) _).setCell (p := ⟨w.heap.size, 1, none⟩) (Nat.le_refl _) _)

set_option maxHeartbeats 1000000 in
theorem i_pointsFrom (f : Nat) (A : Option Addr) (n c : Nat) (xs : List Int) (w : World) (H : Rd w w.heap.size 1 A n (cI xs)) (hn : n ≤ 1048576) (hf : f ≤ 1) :
    Calls Try.prog 66 #[.int .i64 f, .slice A n c] w fun e w' => ∃ g, e = .returned g ∧ OwPointS w' w.heap.size w'.heap.size g (ptsOf f xs) ∧ Below w.heap.size w w' := by
  have hlen := H.len
  obtain ⟨w0, HW0⟩ : ∃ w0, Hid ((w.alloc (.cells #[.int .i64 f] 3)).alloc (.cells #[.slice A n c] 22) = w0) := ⟨_, Lib.hid rfl⟩
  have HB0 : Hid (Below w.heap.size w w0) := Lib.hid (HW0.out ▸ ((Below.refl _ _).alloc (Nat.le_refl _) _).alloc (by simp) _)
  have HZ0 : Hid (w0.heap.size = w.heap.size + 1 + 1) := Lib.hid (by rw [← HW0.out]; simp)
  have HRD : Hid (Rd w0 w0.heap.size 1 A n (cI xs)) := Lib.hid ((H.below HB0.out).more (by have := HZ0.out; omega))
  have HC1 : Hid (w0.cell? ⟨w.heap.size, 0, none⟩ = some (.int .i64 f)) := Lib.hid (by rw [← HW0.out]; exact ((Bx.new w _ _).alloc _).cell 0)
  have HC2 : Hid (w0.cell? ⟨w.heap.size + 1, 0, none⟩ = some (.slice A n c)) := Lib.hid (by
    rw [← HW0.out]
    have := (Bx.new (w.alloc (.cells #[.int .i64 f] 3)) #[.slice A n c] 22).cell 0
    rw [World.size_alloc] at this; exact this)
  have c2 : w0.cell? ⟨w.heap.size + 1, 0, none⟩ = some (.slice A n c) := HC2.out
  clear H
  go_enter Try.func66, Try.ntmps66
  go_wp2_with fail
  try rw [HW0.out]
  refine (i_listed_pts w.heap.size (w.heap.size + 1) n hn (fun k => (((f + k : Nat) : Int), xs.getD k 0)) _ (fun W k hW hk => ?_)).mono ?_
  · exact i_pts1 w.heap.size (w.heap.size + 1) A n c k f xs W ((hW.cell (p := ⟨w.heap.size, 0, none⟩) (by have := HZ0.out; show w.heap.size < w0.heap.size; omega)).trans HC1.out) ((hW.cell (p := ⟨w.heap.size + 1, 0, none⟩) (by have := HZ0.out; show w.heap.size + 1 < w0.heap.size; omega)).trans HC2.out) (by have := HZ0.out; have := hW.size; omega) (by have := HZ0.out; have := hW.size; omega) ((HRD.out.below hW).more hW.size) hf hn hk
  · rintro e w3 ⟨g, rfl, ho, hb3⟩
    have HO : Hid (OwPointS w3 w.heap.size w3.heap.size g (ptsOf f xs)) := Lib.hid (by
      have := ho.widen (show w.heap.size ≤ _ by have := HZ0.out; omega) (Nat.le_refl _)
      rw [← hlen, uptoF_ptsOf] at this; exact this)
    have HB3 := Lib.hid (HB0.out.trans (hb3.mono (by have := HZ0.out; omega)))
    clear ho hb3 c2
    go_wp2
    go_ret
    exact ⟨_, rfl, HO.out, HB3.out⟩

set_option maxHeartbeats 4000000 in
theorem s_ManyTake (A : Option Addr) (n c : Nat) (xs : List Int) (w : World) (h : Rd w w.heap.size 1 A n (cI xs)) (hn : n ≤ 1048576) :
    Calls Try.prog 36 #[.slice A n c] w fun e w' => e = .returned (.tuple #[.int .i64 (mtakV xs), .bool (mtakB xs)]) ∧ Below w.heap.size w w' := by
  have HL := Lib.hid h.len
  have HR := Lib.hid h
  clear h
  go_enter Try.func36, Try.ntmps36
  go_wp2_with fail
  refine (s_l6In _ _ _ _).mono ?_
  rintro e w' ⟨rfl, rfl⟩
  cases e1 : inB (n : Int) 1 20
  · have HF : Hid (mtakV xs = 0 ∧ mtakB xs = false) := Lib.hid (by simp [mtakV, mtakB, HL.out, e1])
    go_wp2
    go_ret2
    exact ⟨ret_ib2 HF.out.1.symm HF.out.2.symm, Below.refl _ _⟩
  obtain ⟨n1, n20⟩ := inB_iff.1 e1
  go_wp2_with fail
  refine (s_l1In _ _ _ _ _ HR.out hn).mono ?_
  rintro e w' ⟨rfl, rfl⟩
  cases e2 : numsB xs
  · have HF : Hid (mtakV xs = 0 ∧ mtakB xs = false) := Lib.hid (by simp [mtakV, mtakB, e2])
    go_wp2
    go_ret2
    exact ⟨ret_ib2 HF.out.1.symm HF.out.2.symm, Below.refl _ _⟩
  have HV : Hid (mtakB xs = true ∧ mtakV xs = atI (thrS (ptsOf 1 xs) n n) 0) := Lib.hid (by have h1 : mtakB xs = true := (by simp [mtakB, HL.out, e1, e2]); exact ⟨h1, by rw [mtakV, if_pos h1, HL.out]⟩)
  have HN := Lib.hid (nums_of_B e2)
  clear e1 e2
  have HE0 : Hid ((w.alloc (.cells #[] 78)).ownsRow w.heap.size 78 2 (.slice (some ⟨w.heap.size, 0, none⟩) 0 0) 0 (cP (ptsU 1 xs 0))) := Lib.hid (own_empty w _ 2)
  have HB0 : Hid (Below w.heap.size w (w.alloc (.cells #[] 78))) := Lib.hid ((Below.refl _ _).alloc (Nat.le_refl _) _)
  go_wp2
  go_loopw [4, 5] (fun out i wr => ∃ (k : Nat) (Ao : Option Addr) (co : Nat), k ≤ n ∧ i = .int .i64 k ∧ out = .slice Ao k co ∧ Hid (wr.ownsRow w.heap.size 78 2 (.slice Ao k co) k (cP (ptsU 1 xs k))) ∧ Hid (Below w.heap.size w wr)) (fun _ i _ => n - (intOf i).toNat)
  case atStart => exact ⟨0, _, 0, Nat.zero_le _, rfl, rfl, HE0, HB0⟩
  case round =>
    clear HE0 HB0
    obtain ⟨k, Ao, co, hk, rfl, rfl, HO, HB⟩ := hrel
    by_cases hlt : k < n
    · obtain ⟨a, x, hA, hab, hx0, HX⟩ := HR.out.intAt hlt
      subst hA
      have hx := (HB.out.cell (p := a.add k) (by rw [add_block]; exact hab)).trans hx0
      have i0 : (0 : Int) ≤ (k : Int) := by omega
      have i1 : (k : Int) < (n : Int) := by omega
      have hzw := HB.out.size
      have HS := Lib.hid (ptsU_succ (f := 1) (k := k) (t := xs) (p := (k : Int) + 1) (x := x) (by omega) HX.out)
      have HOl := Lib.hid (HO.out.alloc (.cells #[.int .i64 ((k : Int) + 1), .int .i64 x] 78))
      have HLP : Hid (Rd (wr.alloc (.cells #[.int .i64 ((k : Int) + 1), .int .i64 x] 78)) (wr.heap.size + 1) 2 (some ⟨wr.heap.size, 0, none⟩) 1 (cP [((k : Int) + 1, x)])) := Lib.hid (lit_pt_at (heap_alloc_new _ _))
      clear hx0
      go_wp2_with (at_builtin
                   refine wpList_append_rd rfl (.tmp 22) (.tmp 30) _ rfl w.heap.size 78 _ 2 16 Try.underlying48 info_pt rfl (by decide) (.slice Ao k co) k _ rfl HOl.out _ _ 1 1 (cP [((k : Int) + 1, x)]) rfl HLP.out (cP_one _) (by unfold maxLen; omega) (by omega) (by simp; omega) ?_
                   intro v6 w6 hown hgr hat
                   obtain ⟨A6, c6, hv6, ho6⟩ := Ow.of_own hown
                   subst hv6
                   have HO6 : Hid (w6.ownsRow w.heap.size 78 2 (.slice A6 (k + 1) c6) (k + 1) (cP (ptsU 1 xs (k + 1)))) := Lib.hid (by rw [HS.out, cP_append]; exact hown)
                   have HB6 : Hid (Below w.heap.size w w6) := Lib.hid (below_grown (HB.out.alloc hzw _) hgr (own_block HO.out) (by simp; omega))
                   clear hown hgr hat ho6)
      go_roundw
      case rel => exact ⟨k + 1, A6, c6, by omega, by go_num, rfl, HO6, HB6⟩
      case measure => simp [intOf] <;> omega
    · obtain rfl : k = n := by omega
      have HOr : Hid (OwPointS wr w.heap.size wr.heap.size (.slice Ao k co) (ptsOf 1 xs)) := Lib.hid (by have := done_pts HO.out (by omega); rw [← HL.out, ptsU_len] at this; rw [← HL.out]; exact this)
      have hz0 := HB.out.size
      go_wp2_with fail
      refine (s_l2Through Ao k co (ptsOf 1 xs) wr (by obtain ⟨_, A', n', c', hv, ho⟩ := HOr.out; injection hv with h1 h2 h3; subst h1 h2 h3; exact ho.rd) (by omega) (by rw [← HL.out]; exact ptsOf_good 1 xs (by rw [HL.out]; omega) HN.out)).mono ?_
      rintro e w6 ⟨g6, rfl, ho6, hb6⟩
      obtain ⟨hsm, At, nt, ct, rfl, hot⟩ := ho6
      have HOT := Lib.hid hot.rd
      have hnt : nt ≤ k := by rw [← hot.len]; exact thrS_len _ _ _ (Nat.le_refl _)
      have HB6 : Hid (Below w.heap.size w w6) := Lib.hid (HB.out.trans (hb6.mono hz0))
      clear hot hb6 hsm HOr HO HB
      go_wp2_with fail
      refine (s_l2At At nt ct _ _ w6 HOT.out (thrS_nums _ _ _) (by omega) (by omega) (by omega)).mono ?_
      rintro e w7 ⟨rfl, rfl⟩
      go_wp2
      go_ret2
      refine ⟨ret_ib2 ?_ HV.out.1.symm, HB6.out⟩
      rw [HV.out.2]

set_option maxHeartbeats 4000000 in
theorem i_ManyTake (A : Option Addr) (n c : Nat) (xs : List Int) (w : World) (h : Rd w w.heap.size 1 A n (cI xs)) (hn : n ≤ 1048576) :
    Calls Try.prog 37 #[.slice A n c] w fun e w' => e = .returned (.tuple #[.int .i64 (mtakV xs), .bool (mtakB xs)]) ∧ Below w.heap.size w w' := by
  have HL := Lib.hid h.len
  have HR := Lib.hid h
  clear h
  by_cases h20 : n ≤ 20
  · have hj := join_ptsOf xs (by rw [HL.out]; exact h20)
    have HJ : Hid (joinI (ptsOf 1 xs) = mtakV xs ∧ joinB (ptsOf 1 xs) = mtakB xs) := Lib.hid ⟨by unfold joinI mtakV; rw [hj, ptsOf_length], hj⟩
    clear hj
    go_enter Try.func37, Try.ntmps37
    go_wp2_with fail
    refine (i_pointsFrom 1 A n c xs w HR.out hn (Nat.le_refl _)).mono ?_
    rintro e w1 ⟨g, rfl, ho, hb⟩
    have HO := Lib.hid ho
    have HB1 := Lib.hid hb
    have hz1 := hb.size
    clear ho hb
    go_wp2_with fail
    refine (X_i_SharesJoin g (ptsOf 1 xs) w1 HO.out.rd (by unfold szPointS; rw [ptsOf_length, HL.out]; exact hn)).mono ?_
    rintro e w2 ⟨rfl, hb⟩
    have HB2 := Lib.hid (HB1.out.trans (hb.mono hz1))
    clear hb
    go_wp2
    go_ret2
    exact ⟨ret_ib2 HJ.out.1 HJ.out.2, HB2.out⟩
  · have HF : Hid (mtakV xs = 0 ∧ mtakB xs = false) := Lib.hid (by have h1 : mtakB xs = false := (by rw [mtakB, HL.out, inB_f (by omega)]; rfl); exact ⟨by unfold mtakV; rw [h1]; rfl, h1⟩)
    go_enter Try.func37, Try.ntmps37
    go_wp2
    go_ret2
    exact ⟨ret_ib2 HF.out.1.symm HF.out.2.symm, Below.refl _ _⟩
theorem X_s_ManyTake (v : Value) (d : List Int) (w : World) (h : RdIntS w w.heap.size v d) (hs : szIntS d ≤ 1048576) :
    Calls Try.prog 36 #[v] w fun e w' => e = .returned (.tuple #[.int .i64 (mtakV d), .bool (mtakB d)]) ∧ Below w.heap.size w w' := by
  obtain ⟨A, n, c, rfl, _, r⟩ := h
  exact s_ManyTake A n c d w r (by have := r.len; unfold szIntS at hs; omega)
theorem X_i_ManyTake (v : Value) (d : List Int) (w : World) (h : RdIntS w w.heap.size v d) (hs : szIntS d ≤ 1048576) :
    Calls Try.prog 37 #[v] w fun e w' => e = .returned (.tuple #[.int .i64 (mtakV d), .bool (mtakB d)]) ∧ Below w.heap.size w w' := by
  obtain ⟨A, n, c, rfl, _, r⟩ := h
  exact i_ManyTake A n c d w r (by have := r.len; unfold szIntS at hs; omega)

set_option maxHeartbeats 4000000 in
theorem s_ManyAnswer (A : Option Addr) (n c : Nat) (xs : List Int) (p : Int) (w : World) (h : Rd w w.heap.size 1 A n (cI xs)) (hn : n ≤ 1048576) :
    Calls Try.prog 34 #[.slice A n c, .int .i64 p] w fun e w' => e = .returned (.tuple #[.int .i64 (mansV xs p), .bool (mansB xs p)]) ∧ Below w.heap.size w w' := by
  have HL := Lib.hid h.len
  have HR := Lib.hid h
  clear h
  go_enter Try.func34, Try.ntmps34
  go_wp2_with fail
  refine (s_TableOk _ _ _ _ _ HR.out hn).mono ?_
  rintro e w' ⟨rfl, rfl⟩
  cases e1 : tabB xs
  · have HF : Hid (mansV xs p = 0 ∧ mansB xs p = false) := Lib.hid (by simp [mansV, mansB, e1])
    go_wp2
    go_ret2
    exact ⟨ret_ib2 HF.out.1.symm HF.out.2.symm, Below.refl _ _⟩
  go_wp2_with fail
  refine (s_NumOk _ _).mono ?_
  rintro e w' ⟨rfl, rfl⟩
  cases e2 : numB p
  · have HF : Hid (mansV xs p = 0 ∧ mansB xs p = false) := Lib.hid (by simp [mansV, mansB, e2])
    go_wp2
    go_ret2
    exact ⟨ret_ib2 HF.out.1.symm HF.out.2.symm, Below.refl _ _⟩
  have HV : Hid (mansB xs p = true ∧ mansV xs p = atI (thrS (ptsOf 0 xs) n n) p) := Lib.hid (by have h1 : mansB xs p = true := (by simp [mansB, e1, e2]); exact ⟨h1, by rw [mansV, if_pos h1, HL.out]⟩)
  have hp := e1
  simp only [tabB, Bool.and_eq_true, inB_iff] at hp
  rw [HL.out] at hp
  obtain ⟨⟨n1, n16⟩, hN⟩ := hp
  obtain ⟨p0, p1⟩ := (numB_iff p).1 e2
  have HN := Lib.hid (nums_of_B hN)
  clear e1 e2 hN
  have HE0 : Hid ((w.alloc (.cells #[] 78)).ownsRow w.heap.size 78 2 (.slice (some ⟨w.heap.size, 0, none⟩) 0 0) 0 (cP (ptsU 0 xs 0))) := Lib.hid (own_empty w _ 2)
  have HB0 : Hid (Below w.heap.size w (w.alloc (.cells #[] 78))) := Lib.hid ((Below.refl _ _).alloc (Nat.le_refl _) _)
  go_wp2
  go_loopw [6, 7] (fun out i wr => ∃ (k : Nat) (Ao : Option Addr) (co : Nat), k ≤ n ∧ i = .int .i64 k ∧ out = .slice Ao k co ∧ Hid (wr.ownsRow w.heap.size 78 2 (.slice Ao k co) k (cP (ptsU 0 xs k))) ∧ Hid (Below w.heap.size w wr)) (fun _ i _ => n - (intOf i).toNat)
  case atStart => exact ⟨0, _, 0, Nat.zero_le _, rfl, rfl, HE0, HB0⟩
  case round =>
    clear HE0 HB0
    obtain ⟨k, Ao, co, hk, rfl, rfl, HO, HB⟩ := hrel
    by_cases hlt : k < n
    · obtain ⟨a, x, hA, hab, hx0, HX⟩ := HR.out.intAt hlt
      subst hA
      have hx := (HB.out.cell (p := a.add k) (by rw [add_block]; exact hab)).trans hx0
      have i0 : (0 : Int) ≤ (k : Int) := by omega
      have i1 : (k : Int) < (n : Int) := by omega
      have hzw := HB.out.size
      have HS := Lib.hid (ptsU_succ (f := 0) (k := k) (t := xs) (p := (k : Int)) (x := x) (by omega) HX.out)
      have HOl := Lib.hid (HO.out.alloc (.cells #[.int .i64 ((k : Int)), .int .i64 x] 78))
      have HLP : Hid (Rd (wr.alloc (.cells #[.int .i64 ((k : Int)), .int .i64 x] 78)) (wr.heap.size + 1) 2 (some ⟨wr.heap.size, 0, none⟩) 1 (cP [((k : Int), x)])) := Lib.hid (lit_pt_at (heap_alloc_new _ _))
      clear hx0
      go_wp2_with (at_builtin
                   refine wpList_append_rd rfl (.tmp 23) (.tmp 30) _ rfl w.heap.size 78 _ 2 16 Try.underlying48 info_pt rfl (by decide) (.slice Ao k co) k _ rfl HOl.out _ _ 1 1 (cP [((k : Int), x)]) rfl HLP.out (cP_one _) (by unfold maxLen; omega) (by omega) (by simp; omega) ?_
                   intro v6 w6 hown hgr hat
                   obtain ⟨A6, c6, hv6, ho6⟩ := Ow.of_own hown
                   subst hv6
                   have HO6 : Hid (w6.ownsRow w.heap.size 78 2 (.slice A6 (k + 1) c6) (k + 1) (cP (ptsU 0 xs (k + 1)))) := Lib.hid (by rw [HS.out, cP_append]; exact hown)
                   have HB6 : Hid (Below w.heap.size w w6) := Lib.hid (below_grown (HB.out.alloc hzw _) hgr (own_block HO.out) (by simp; omega))
                   clear hown hgr hat ho6)
      go_roundw
      case rel => exact ⟨k + 1, A6, c6, by omega, by go_num, rfl, HO6, HB6⟩
      case measure => simp [intOf] <;> omega
    · obtain rfl : k = n := by omega
      have HOr : Hid (OwPointS wr w.heap.size wr.heap.size (.slice Ao k co) (ptsOf 0 xs)) := Lib.hid (by have := done_pts HO.out (by omega); rw [← HL.out, ptsU_len] at this; rw [← HL.out]; exact this)
      have hz0 := HB.out.size
      go_wp2_with fail
      refine (s_l2Through Ao k co (ptsOf 0 xs) wr (by obtain ⟨_, A', n', c', hv, ho⟩ := HOr.out; injection hv with h1 h2 h3; subst h1 h2 h3; exact ho.rd) (by omega) (by rw [← HL.out]; exact ptsOf_good 0 xs (by rw [HL.out]; omega) HN.out)).mono ?_
      rintro e w6 ⟨g6, rfl, ho6, hb6⟩
      obtain ⟨hsm, At, nt, ct, rfl, hot⟩ := ho6
      have HOT := Lib.hid hot.rd
      have hnt : nt ≤ k := by rw [← hot.len]; exact thrS_len _ _ _ (Nat.le_refl _)
      have HB6 : Hid (Below w.heap.size w w6) := Lib.hid (HB.out.trans (hb6.mono hz0))
      clear hot hb6 hsm HOr HO HB
      go_wp2_with fail
      refine (s_l2At At nt ct _ _ w6 HOT.out (thrS_nums _ _ _) (by omega) p0 p1).mono ?_
      rintro e w7 ⟨rfl, rfl⟩
      go_wp2
      go_ret2
      refine ⟨ret_ib2 ?_ HV.out.1.symm, HB6.out⟩
      rw [HV.out.2]

set_option maxHeartbeats 4000000 in
theorem i_places1 (b bt : Nat) (A : Option Addr) (n c : Nat) (xs : List Int) (p : Int) (w : World) (hb : w.cell? ⟨b, 0, none⟩ = some (.pointer (some ⟨bt, 0, none⟩))) (ht : w.cell? ⟨bt, 0, none⟩ = some (.slice A n c))
    (h : Rd w w.heap.size 1 A n (cI xs)) (hn : n ≤ 16) (hN : Nums xs) (p0 : 0 ≤ p) (p1 : p ≤ 112) :
    Calls Try.prog 90 #[.int .i64 p, .pointer (some ⟨b, 0, none⟩)] w fun e w' => e = .returned (.int .i64 (atI (thrS (ptsOf 0 xs) n n) p)) ∧ Below w.heap.size w w' := by
  have HL := Lib.hid h.len
  have HR := Lib.hid h
  have HN := Lib.hid hN
  clear h hN
  go_enter Try.func90, Try.ntmps90
  go_wp2_with fail
  refine (i_pointsFrom 0 A n c xs w HR.out (by omega) (Nat.zero_le _)).mono ?_
  rintro e w1 ⟨g, rfl, ho, hb1⟩
  have HB1 := Lib.hid hb1
  have hz1 := hb1.size
  obtain ⟨hsm, A1, n1, c1, rfl, ho1⟩ := ho
  obtain rfl : n1 = n := by have := ho1.plen; rw [ptsOf_length, HL.out] at this; exact this.symm
  have HG : Good (ptsOf 0 xs) n1 := by have := ptsOf_good 0 xs (by rw [HL.out]; omega) HN.out; rwa [HL.out] at this
  have HT : Hid ((thrI (ptsOf 0 xs) n1).1 = thrS (ptsOf 0 xs) n1 n1) := Lib.hid (by
    have := through_one (ps := ptsOf 0 xs) (by rw [ptsOf_length, HL.out]; exact HG)
    rwa [ptsOf_length, HL.out] at this)
  have HO1 := Lib.hid ho1.rd
  clear ho1 hb1 hsm hb ht
  go_wp2_with fail
  refine (i_through A1 n1 c1 (ptsOf 0 xs) w1 HO1.out (by omega) HG).mono ?_
  rintro e w6 ⟨g6, rfl, ho6, hb6⟩
  rw [HT.out] at ho6
  obtain ⟨hsm, At, nt, ct, rfl, hot⟩ := ho6
  have HOT := Lib.hid hot.rd
  have hnt : nt ≤ n1 := by rw [← hot.len]; exact thrS_len _ _ _ (Nat.le_refl _)
  have HB6 : Hid (Below w.heap.size w w6) := Lib.hid (HB1.out.trans (hb6.mono hz1))
  clear hot hb6 hsm
  go_wp2_with fail
  refine (i_polynomial_at At nt ct _ _ w6 HOT.out (thrS_nums _ _ _) (by omega) p0 p1).mono ?_
  rintro e w7 ⟨rfl, hst⟩
  have HB7 := Lib.hid (HB6.out.trans ((hst.below w6.heap.size).mono HB6.out.size))
  clear hst
  go_wp2
  go_ret
  exact ⟨rfl, HB7.out⟩
set_option maxHeartbeats 1000000 in
theorem i_places (bt : Nat) (w : World) :
    Calls Try.prog 64 #[.pointer (some ⟨bt, 0, none⟩)] w fun e w' => e = .returned (.func (.func 90) #[] #[.pointer (some ⟨w.heap.size, 0, none⟩)]) ∧ w' = w.alloc (.cells #[.pointer (some ⟨bt, 0, none⟩)] 99) := by
  go_enter Try.func64, Try.ntmps64
  go_wp2
  go_ret
  exact ⟨rfl, rfl⟩

set_option maxHeartbeats 4000000 in
theorem i_ManyAnswer (A : Option Addr) (n c : Nat) (xs : List Int) (p : Int) (w : World) (h : Rd w w.heap.size 1 A n (cI xs)) (hn : n ≤ 1048576) :
    Calls Try.prog 35 #[.slice A n c, .int .i64 p] w fun e w' => e = .returned (.tuple #[.int .i64 (mansV xs p), .bool (mansB xs p)]) ∧ Below w.heap.size w w' := by
  have HL := Lib.hid h.len
  have HR := Lib.hid h
  clear h
  go_enter Try.func35, Try.ntmps35
  go_wp2_with fail
  refine (i_TableOk _ _ _ _ _ HR.out hn).mono ?_
  rintro e w' ⟨rfl, rfl⟩
  cases e1 : tabB xs
  · have HF : Hid (mansV xs p = 0 ∧ mansB xs p = false) := Lib.hid (by simp [mansV, mansB, e1])
    go_wp2
    go_ret2
    exact ⟨ret_ib2 HF.out.1.symm HF.out.2.symm, Below.refl _ _⟩
  go_wp2_with fail
  refine (i_NumOk _ _).mono ?_
  rintro e w' ⟨rfl, rfl⟩
  cases e2 : numB p
  · have HF : Hid (mansV xs p = 0 ∧ mansB xs p = false) := Lib.hid (by simp [mansV, mansB, e2])
    go_wp2
    go_ret2
    exact ⟨ret_ib2 HF.out.1.symm HF.out.2.symm, Below.refl _ _⟩
  have HV : Hid (mansB xs p = true ∧ mansV xs p = atI (thrS (ptsOf 0 xs) n n) p) := Lib.hid (by have h1 : mansB xs p = true := (by simp [mansB, e1, e2]); exact ⟨h1, by rw [mansV, if_pos h1, HL.out]⟩)
  have hp := e1
  simp only [tabB, Bool.and_eq_true, inB_iff] at hp
  rw [HL.out] at hp
  obtain ⟨⟨n1, n16⟩, hN⟩ := hp
  obtain ⟨p0, p1⟩ := (numB_iff p).1 e2
  have HN := Lib.hid (nums_of_B hN)
  clear e1 e2 hN
  obtain ⟨w1, HW1⟩ : ∃ w1, Hid (w.alloc (.cells #[.slice A n c] 65) = w1) := ⟨_, Lib.hid rfl⟩
  have HB1 : Hid (Below w.heap.size w w1) := Lib.hid (HW1.out ▸ (Below.refl _ _).alloc (Nat.le_refl _) _)
  have HX1 : Hid (Bx w1 w.heap.size #[.slice A n c] 65) := Lib.hid (HW1.out ▸ Bx.new _ _ _)
  go_wp2_with fail
  rw [HW1.out]
  refine (i_places _ _).mono ?_
  rintro e w2 ⟨rfl, hw2⟩
  have HB2 : Hid (Below w.heap.size w w2) := Lib.hid (by rw [hw2]; exact HB1.out.alloc HB1.out.size _)
  have c1 : w2.cell? ⟨w1.heap.size, 0, none⟩ = some (.pointer (some ⟨w.heap.size, 0, none⟩)) := by rw [hw2]; exact (Bx.new _ _ _).cell 0
  have c2 : w2.cell? ⟨w.heap.size, 0, none⟩ = some (.slice A n c) := by rw [hw2]; exact (HX1.out.alloc _).cell 0
  have hz2 := HB2.out.size
  clear hw2
  go_wp2_with fail
  refine (i_places1 _ _ A n c xs p w2 c1 c2 ((HR.out.below HB2.out).more HB2.out.size) (by omega) HN.out p0 p1).mono ?_
  rintro e w' ⟨rfl, hb⟩
  have HB3 := Lib.hid (HB2.out.trans (hb.mono hz2))
  clear hb
  go_wp2
  go_ret2
  exact ⟨ret_ib2 HV.out.2.symm HV.out.1.symm, HB3.out⟩
theorem X_s_ManyAnswer (v : Value) (d : List Int) (p : Int) (w : World) (h : RdIntS w w.heap.size v d) (hs : szIntS d ≤ 1048576) :
    Calls Try.prog 34 #[v, .int .i64 p] w fun e w' => e = .returned (.tuple #[.int .i64 (mansV d p), .bool (mansB d p)]) ∧ Below w.heap.size w w' := by
  obtain ⟨A, n, c, rfl, _, r⟩ := h
  exact s_ManyAnswer A n c d p w r (by have := r.len; unfold szIntS at hs; omega)
theorem X_i_ManyAnswer (v : Value) (d : List Int) (p : Int) (w : World) (h : RdIntS w w.heap.size v d) (hs : szIntS d ≤ 1048576) :
    Calls Try.prog 35 #[v, .int .i64 p] w fun e w' => e = .returned (.tuple #[.int .i64 (mansV d p), .bool (mansB d p)]) ∧ Below w.heap.size w w' := by
  obtain ⟨A, n, c, rfl, _, r⟩ := h
  exact i_ManyAnswer A n c d p w r (by have := r.len; unfold szIntS at hs; omega)
end Go.Proofs.Ytbabkaofhhaneaa

/- P74: what it draws, and the law's walk. Made by tools/plain/p74.py. -/
namespace Go.Proofs.Ytbabkaofhhaneaa
open Go.RowKit
set_option maxRecDepth 100000

theorem rdr_d2 {w : World} {g hi p : Nat} {A : Option Addr} {n c : Nat} {bs : List Int} (h : Rdr w g hi p A n c bs) : Rdr w.drew g hi p A n c bs := h.drewN 1
theorem two_at (w : World) (a b : Int) (e : TypeId) {j : Nat} (hj : j < 2) : (w.alloc (.cells #[.int .i64 a, .int .i64 b] e)).cell? ⟨w.heap.size, j, none⟩ = some (.int .i64 (if j = 0 then a else b)) := by
  rw [World.cell?_alloc_new]
  rcases (show j = 0 ∨ j = 1 by omega) with rfl | rfl <;> rfl
theorem two_kept {w w2 : World} {g : Nat} (a b : Int) (e : TypeId) {j : Nat} (hj : j < 2) (hk : Kept g (g + 1) (w.alloc (.cells #[.int .i64 a, .int .i64 b] e)) w2) (hg : g < w.heap.size) : w2.cell? ⟨w.heap.size, j, none⟩ = some (.int .i64 (if j = 0 then a else b)) :=
  lit4 _ hk hg j _ (by rcases (show j = 0 ∨ j = 1 by omega) with rfl | rfl <;> rfl)
set_option maxHeartbeats 8000000 in
theorem d_DrawManyAnswer (A : Option Addr) (n c : Nat) (bs : List Int) (w : World) (h : Rd w w.heap.size 1 A n (cU bs)) (hb : Byt bs) (hn : n ≤ 1048576) (hc : n ≤ c) :
    Calls Try.prog 48 #[.slice A n c] w fun e w' => ∃ v, (∃ pl, e = .returned (.tuple #[v, .int .i64 pl])) ∧ (∃ d, OwIntS w' w.heap.size w'.heap.size v d) ∧ Below w.heap.size w w' := by
  have H := Lib.hid h
  clear h
  go_enter Try.func48, Try.ntmps48
  go_wp2_with fail
  refine (d_l6Open _ _ _ _ _ H.out hb hn hc).mono ?_
  rintro e w1 ⟨rfl, ⟨A', n', c', bs', h1⟩, hb1⟩
  obtain ⟨g, hg⟩ : ∃ g, w.heap.size = g := ⟨_, rfl⟩
  have B1 := Lib.hid hb1
  rw [hg] at h1
  have hrr := rdr_d2 h1
  have hgw : g < w1.heap.size := h1.lt
  have hkk : Kept g (g + 1) w1 w1.drew := (Kept.refl _ _ _).drewN 1
  have zd : w1.drew.heap.size = w1.heap.size := rfl
  rw [hg]
  have HG := Lib.hid hg
  clear h1 hb1 hg
  have stq0 : True := trivial
  go_wp2
  go_region_with (first
   | (have stq1 := stq0
      clear stq0
      go_at_call 76
      refine (d_l92Table _ _ _ _ _ _ _ _ hrr (by omega)).mono ?_
      rintro e u1 ⟨v, d, qd, rfl, hod, hdl, hqd, h2, k2⟩
      have z1 : w1.heap.size ≤ u1.heap.size := k2.size
      replace hkk := hkk.trans k2
      replace hrr := h2
      clear k2 h2)
   | (have stq2 := stq1
      clear stq1
      go_at_call 77
      refine (d_pick _ _ _ _ _ _ _ _ _ hrr (by omega) (by omega) (by omega)).mono ?_
      rintro e u2 ⟨x, rfl, x0, x1, h2, k2⟩
      have z2 : u1.heap.size ≤ u2.heap.size := k2.size
      replace hod := hod.kept k2 (Nat.le_refl _) (.inl (by omega))
      replace hkk := hkk.trans k2
      replace hrr := h2
      clear k2 h2)
   | (have stq3 := stq2
      clear stq2
      go_at_call 78
      refine (d_l91Num _ _ _ _ _ _ _ _ hrr (by omega)).mono ?_
      rintro e u3 ⟨y, qy, rfl, _, hqy, h2, k2⟩
      have z3 : u2.heap.size ≤ u3.heap.size := k2.size
      replace hod := hod.kept k2 (by omega) (.inl (by omega))
      replace hkk := hkk.trans k2
      replace hrr := h2
      clear k2 h2)
   | (have stq4 := stq3
      clear stq3
      go_at_call 77
      refine (d_pick _ _ _ _ _ _ _ _ _ (hrr.alloc _) (by omega) (by omega) (by omega)).mono ?_
      rintro e u4 ⟨j0, rfl, j00, j01, h2, k2⟩
      obtain ⟨j, rfl⟩ := Int.eq_ofNat_of_zero_le j00
      have hj2 : j < 2 := by omega
      have hcj := two_kept x y 3 hj2 k2 (by omega)
      obtain ⟨zz, hzz⟩ : ∃ z, (if j = 0 then x else y) = z := ⟨_, rfl⟩
      rw [hzz] at hcj
      clear hzz
      have z4 : u3.heap.size ≤ u4.heap.size := by have := k2.size; rw [World.size_alloc] at this; omega
      replace hod := (hod.kept (kept_alloc g (g + 1) u3 _) (by omega) (.inl (by omega))).kept k2 (by rw [World.size_alloc]; omega) (.inl (by omega))
      replace hkk := (hkk.trans (kept_alloc g (g + 1) u3 _)).trans k2
      replace hrr := h2
      clear k2 h2)
   | (have stq4 := stq3
      clear stq3
      go_at_call 77
      refine (d_pick _ _ _ _ _ _ _ _ _ hrr (by omega) (by omega) (by omega)).mono ?_
      rintro e u4 ⟨j0, rfl, j00, j01, h2, k2⟩
      obtain ⟨j, rfl⟩ := Int.eq_ofNat_of_zero_le j00
      have hj2 : j < 2 := by omega
      have hcj := two_at u4 x y 3 hj2
      obtain ⟨zz, hzz⟩ : ∃ z, (if j = 0 then x else y) = z := ⟨_, rfl⟩
      rw [hzz] at hcj
      clear hzz
      have z4 : u3.heap.size ≤ u4.heap.size := k2.size
      replace hod := hod.kept k2 (by omega) (.inl (by omega))
      replace hkk := hkk.trans k2
      replace hrr := h2
      clear k2 h2))
  all_goals
    go_wp2
    go_ret2
    have hg := HG.out
    first
    | exact ⟨_, ⟨_, rfl⟩, ⟨_, hod.widen (by omega) (by omega)⟩, B1.out.trans ((hkk.to_below (by omega)).mono (by omega))⟩
    | exact ⟨_, ⟨_, rfl⟩, ⟨_, (hod.below ((Below.refl u4.heap.size u4).alloc (Nat.le_refl _) _) (by omega)).widen (by omega) (by rw [World.size_alloc]; omega)⟩, B1.out.trans (((hkk.trans (kept_alloc g (g + 1) u4 _)).to_below (by omega)).mono (by omega))⟩

theorem mans_at {t : List Int} {k : Nat} (h : mansB t k = true) (hk : k < t.length) : mansV t k = t.getD k 0 := by
  unfold mansV
  rw [if_pos h]
  unfold mansB tabB at h
  simp only [Bool.and_eq_true, inB_iff] at h
  obtain ⟨⟨⟨n1, n16⟩, hN⟩, _⟩ := h
  have hG := ptsOf_good 0 t (by omega) (nums_of_B hN)
  have := (thrS_at hG t.length (Nat.le_refl _)).1 k hk
  rw [px_ptsOf 0 t k hk, py_ptsOf 0 t k hk, Nat.zero_add] at this
  rw [atI_sv]; exact this

set_option maxHeartbeats 4000000 in
theorem P74_walk (A : Option Addr) (n c : Nat) (bs : List Int) (w : World) (h : Rd w w.heap.size 1 A n (cU bs)) (hby : Byt bs) (hc : n ≤ c) (hm : n ≤ 9223372036854775807) :
    Calls Try.prog 15 #[.slice A n c] w fun e w' => e = .returned (.bool true) ∧ Below w.heap.size w w' := by
  by_cases hn : n ≤ 1048576
  · have h3 : ¬ ((1048576 : Int) < (n : Int)) := by omega
    have H := Lib.hid h
    clear h
    go_enter Try.func15, Try.ntmps15
    go_wp2_with fail
    refine (d_DrawManyAnswer _ _ _ _ _ H.out hby hn hc).mono ?_
    rintro e w1 ⟨vt, ⟨pl, rfl⟩, ⟨t, h_t⟩, hb⟩
    have z1 : w.heap.size ≤ w1.heap.size := hb.size
    have HB := Lib.hid hb
    have HO_t := Lib.hid h_t
    clear hb h_t
    go_wp2_with fail
    refine (X_i_ManyAnswer _ t pl _ (HO_t.out.rd.more (by omega)) HO_t.out.small).mono ?_
    rintro e w2 ⟨rfl, hb⟩
    have z2 : w1.heap.size ≤ w2.heap.size := hb.size
    replace HO_t := Lib.hid (HO_t.out.below hb (by omega))
    replace HB := Lib.hid (HB.out.trans (hb.mono (by omega)))
    clear hb
    go_wp2_with fail
    refine (X_s_ManyAnswer _ t pl _ (HO_t.out.rd.more (by omega)) HO_t.out.small).mono ?_
    rintro e w3 ⟨rfl, hb⟩
    have z3 : w2.heap.size ≤ w3.heap.size := hb.size
    replace HO_t := Lib.hid (HO_t.out.below hb (by omega))
    replace HB := Lib.hid (HB.out.trans (hb.mono (by omega)))
    clear hb
    cases hB : mansB t pl
    · go_wp2
      go_ret
      exact ⟨rfl, HB.out⟩
    obtain ⟨_, At, nt, ct, rfl, rt⟩ := HO_t.out
    have hlt := rt.len
    have HMB := Lib.hid hB
    have hp := hB
    unfold mansB at hp
    simp only [Bool.and_eq_true, numB_iff] at hp
    obtain ⟨_, p0, p1⟩ := hp
    clear hB
    by_cases hlt2 : pl < (nt : Int)
    · obtain ⟨k, rfl⟩ := Int.eq_ofNat_of_zero_le p0
      have HV := Lib.hid (mans_at HMB.out (show k < t.length by omega))
      obtain ⟨ad, x, hA, _, hcx, HX⟩ := rt.rd.intAt (show k < nt by omega)
      subst hA
      rw [HV.out, ← HX.out]
      have i0 : (0 : Int) ≤ (k : Int) := by omega
      clear rt HX HV
      go_wp2
      go_ret
      exact ⟨rfl, HB.out⟩
    have q3 : decide (pl < (nt : Int)) = false := decide_eq_false hlt2
    clear rt hlt2
    go_wp2
    go_ret
    exact ⟨rfl, HB.out⟩
  · have h3 : (1048576 : Int) < (n : Int) := by omega
    go_enter Try.func15, Try.ntmps15
    go_wp2
    go_ret
    exact ⟨rfl, Below.refl _ _⟩
end Go.Proofs.Ytbabkaofhhaneaa

/- An argument of type []byte, opened. -/
namespace Go.Proofs.Ytbabkaofhhaneaa
open Go.RowKit
set_option maxRecDepth 100000

section
open Go.ChangeShapes Go.WideShapes Go.ChangeAt Go.RowKit
/-- an argument of type []byte: a list of bytes that reads -/
theorem open_byteS {H : Type} {enc : TypeId × Value → H} {P : Program} {w : World} {b0 : Nat} {t e : TypeId} {r : Reach} {v : Value} {d : DataW H} {ps : List MemPlace} (ht : P.underlying t = some (.slice e)) (he : P.underlying e = some (.int .u8)) (hc : P.cellsOf e = 1)
    (hv : Value.okWide P w r b0 t v) (h : DataW.Trod enc P w 0 (fun _ => true) true t v d ps) :
    ∃ A n c zs, v = .slice A n c ∧ n ≤ 9223372036854775807 ∧ n ≤ c ∧ Rd w w.heap.size 1 A n (cU zs) ∧ Byt zs := by
  obtain ⟨A, n, c, rfl⟩ : ∃ A n c, v = .slice A n c := by
    cases v <;> simp [Value.okWide, ht, Cell.okWide, Cell.ok] at hv
    exact ⟨_, _, _, rfl⟩
  obtain ⟨fuel, hf⟩ := h
  rcases open_ints ht he hc hf with ⟨hn, _⟩ | ⟨a, len, cap, zs, hs, _, hlc, hm, hlen, _, hcell, hwz⟩
  · simp [Value.cells] at hn
    obtain ⟨rfl, rfl, rfl⟩ := hn
    exact ⟨_, _, _, [], rfl, by omega, Nat.le_refl _, ⟨by simp [cU], fun h => by omega⟩, fun j => by simp⟩
  · simp [Value.cells] at hs
    obtain ⟨rfl, rfl, rfl⟩ := hs
    simp only [if_true] at hlen
    unfold maxLen at hm
    have hby : Byt zs := fun j => by
      by_cases hj : j < zs.length
      · have hw := hwz zs[j] (List.getElem_mem hj)
        simp only [Lit.wf, IntKind.min, IntKind.max, IntKind.signed, IntKind.bits, Bool.and_eq_true] at hw
        simp [hj]
        simp at hw
        omega
      · simp [List.getElem?_eq_none (show zs.length ≤ j by omega)]
    refine ⟨_, _, _, zs.take n, rfl, by omega, by omega, ⟨by rw [cU_length, List.length_take]; omega, fun hn => ⟨a, rfl, ?_, fun j u hu => ?_⟩⟩, hby.take _⟩
    · have := hcell 0 (by omega)
      exact World.block_lt_of_cell? (a := a.add 0) _ this
    · have hj : j < n := by
        have := (List.getElem?_eq_some_iff.1 hu).1
        rw [cU_length, List.length_take] at this; omega
      simp only [cU, List.map_take, List.getElem?_take, if_pos hj, List.getElem?_map, List.getElem?_eq_getElem (show j < zs.length by omega), Option.map_some, Option.some.injEq] at hu
      rw [← hu, hcell j (by omega)]
      simp [show j < zs.length by omega]
end
end Go.Proofs.Ytbabkaofhhaneaa
