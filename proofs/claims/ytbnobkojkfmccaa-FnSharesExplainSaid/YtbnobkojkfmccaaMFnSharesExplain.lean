import Derived.Test.YtbnobkojkfmccaaWalk5h
import Derived.Test.YtbnobkojkfmccaaWalk3a
import Derived.Test.YtbnobkojkfmccaaAppend
import Derived.Test.YtbnobkojkfmccaaDraw3
import Derived.Test.YtbnobkojkfmccaaLaw
import Derived.Test.YtbnobkojkfmccaaFaceI
import Derived.Test.YtbnobkojkfmccaaWalk2a
import Derived.Test.YtbnobkojkfmccaaWalk5c
import Derived.Test.YtbnobkojkfmccaaDraw2b
/- Chapter 4: SharesOf in the model. -/
namespace Go.Proofs.Ytbnobkojkfmccaa
open Go.RowKit Go.Shelf
set_option maxRecDepth 100000

def shF (cs : List Int) (i : Nat) : Int × Int := ((i : Int) + 1, atI cs ((i : Int) + 1))
def ofB (s n : Int) (t : List Int) : Bool := numB s && (numsB t && (inB n 1 7 && decide ((t.length : Int) < n)))
def R_SharesOf_1 (s n : Int) (t : List Int) : Bool := ofB s n t
def R_SharesOf_0 (s n : Int) (t : List Int) : List (Int × Int) := if ofB s n t = true then uptoF (shF (s :: t)) n.toNat else []
theorem of_no {s n : Int} {t : List Int} (h : ofB s n t = false) : Hid (R_SharesOf_1 s n t = false ∧ R_SharesOf_0 s n t = []) := Lib.hid ⟨h, by unfold R_SharesOf_0; rw [h]; rfl⟩
theorem nums_cons {s : Int} {t : List Int} (h : 0 ≤ s ∧ s ≤ 112) (ht : Nums t) : Nums (s :: t) := fun j => by
  cases j with
  | zero => exact h
  | succ j => exact ht j
theorem lit_int (w : World) (s : Int) : (w.alloc (.cells #[.int .i64 s] 3)).ownsRow w.heap.size 3 1 (.slice (some ⟨w.heap.size, 0, none⟩) 1 1) 1 [.int .i64 s] :=
  ⟨rfl, .inr ⟨w.heap.size, 1, _, rfl, Nat.le_refl _, heap_alloc_new _ _, Nat.le_refl _, by unfold maxLen; omega, rfl, rfl⟩⟩
/-- another row is none of this type's blocks -/
theorem own_other {w : World} {B e t n s g : Nat} {v : Value} {xs : List Value} {cs : Array Value} (h : w.ownsRow B e s v n xs) (hte : e ≠ t) (hg : w.heap[g]? = some (.cells cs t (0, 0))) : v.ownBlock ≠ some g := by
  intro e1
  rcases h.2 with ⟨rfl, _⟩ | ⟨g', cap, cur, rfl, _, hh, _⟩
  · simp [Value.ownBlock] at e1
  · simp [Value.ownBlock] at e1
    subst e1
    rw [hg] at hh; injection hh with hh; injection hh with _ ht
    exact hte ht.symm

end Go.Proofs.Ytbnobkojkfmccaa

/- Chapter 4: the iterator and the list over given's closure (made from XWalk5g, XWalk5h by tools/gen5.py) -/
namespace Go.Proofs.Ytbnobkojkfmccaa
open Go.RowKit Go.Shelf
set_option maxRecDepth 100000
attribute [local go_sem] Oper.semAt_some

set_option maxHeartbeats 2000000 in
theorem i_it_given (b1 l Bn Bs n₀ cnt m : Nat) (hm : 1 ≤ m) (f : Nat → Int × Int) (w0 : World)
    (hS : ∀ W k, Below n₀ w0 W → k < cnt → Calls Try.prog 108 #[.int .i64 k, .pointer (some ⟨b1, 0, none⟩)] W fun e W' => e = .returned (.agg #[.int .i64 (f k).1, .int .i64 (f k).2]) ∧ Below W.heap.size W W')
    (hcnt : cnt ≤ 1048576) (J Jx : List (Int × Int) → World → Prop) (W : World) (hJ : AbidesFrom W.heap.size J)
    (hY : ∀ pre x W1, J pre W1 → pre.length < cnt → YieldAt Fence.wide (m - 1) Try.prog l (encP x) W1 fun e W' =>
      (e = .returned (.bool true) ∧ J (pre ++ [x]) W' ∧ KpS n₀ Bs (.func (.func 108) #[] #[.pointer (some ⟨b1, 0, none⟩)]) W1 W') ∨ (e = .returned (.bool false) ∧ Jx (pre ++ [x]) W'))
    (hBn : W.cell? ⟨Bn, 0, none⟩ = some (.int .i64 cnt)) (hBs : Boxed W Bs 139 (.func (.func 108) #[] #[.pointer (some ⟨b1, 0, none⟩)])) (hn₀ : n₀ ≤ W.heap.size) (hbel : Below n₀ w0 W) (h0 : J [] W) :
    CallsIn Fence.wide m Try.prog 121 #[.func (.yield l) #[] #[], .pointer (some ⟨Bn, 0, none⟩), .pointer (some ⟨Bs, 0, none⟩)] W fun e W' => (∃ v, e = .returned v) ∧
      ((∃ ys, ys = uptoF f cnt ∧ J ys W') ∨ (∃ pre, True ∧ Jx pre W')) := by
  have hm1 : 1 ≤ m := hm
  refine callsIn_of_wp Try.func121 rfl trivial ?_ rfl
  simp only [Try.ntmps121, List.size_toArray, List.length_cons, List.length_nil, Nat.reduceAdd, Nat.reduceSub, Array.replicate_succ, Array.replicate_zero, List.push_toArray, List.append_toArray, List.nil_append, List.cons_append]
  gi_wp2
  gi_loopw [6] (fun i wr => ∃ k : Nat, k ≤ cnt ∧ i = .int .i64 k ∧ J (uptoF f k) wr ∧ Hid (Below n₀ w0 wr) ∧ Hid (n₀ ≤ wr.heap.size) ∧ Hid (Boxed wr Bs 139 (.func (.func 108) #[] #[.pointer (some ⟨b1, 0, none⟩)])))
    (fun i _ => cnt - (intOf i).toNat)
  case atStart => exact ⟨0, Nat.zero_le _, rfl, h0, Lib.hid hbel, Lib.hid hn₀, Lib.hid hBs⟩
  case round =>
    obtain ⟨k, hk, rfl, hJs, HBL, HZ, HBS⟩ := hrel
    by_cases hlt : k < cnt
    · have hcs := HBS.out.cell
      have i0 : (0 : Int) ≤ (k : Int) := by omega
      have i1 : (k : Int) < (cnt : Int) := by omega
      gi_wp2_with (refine ⟨trivial, ?_⟩
                   gi_at_call 108
                   refine (callsIn_wide.2 (hS _ k HBL.out hlt)).mono ?_
                   rintro e W1 ⟨rfl, hb1⟩
                   have hJ1 := hJ _ _ _ none hJs (grown_of_below hb1) (fun r e => by cases e)
                   have HBS1 : Hid (Boxed W1 Bs 139 (.func (.func 108) #[] #[.pointer (some ⟨b1, 0, none⟩)])) := Lib.hid (HBS.out.kept (grown_of_below hb1) (by simp))
                   have HBL1 : Hid (Below n₀ w0 W1) := Lib.hid (HBL.out.trans (hb1.mono HZ.out))
                   have HZ1 : Hid (n₀ ≤ W1.heap.size) := Lib.hid (Nat.le_trans HZ.out hb1.size)
                   obtain ⟨fn, tmps, assign, body, hy, hR⟩ := hY _ (f k) W1 hJ1 (by rw [uptoF_length]; exact hlt)
                   simp only [encP] at hy
                   clear hb1 HBL HZ HBS hJs hcs)
      refine hR.mono ?_
      rintro e W3 (⟨rfl, hJ3, hk3⟩ | ⟨rfl, hJx3⟩)
      · have HK3 := Lib.hid hk3
        clear hk3
        gi_wp2
        go_roundw
        case rel => exact ⟨k + 1, by omega, by go_num, by rw [uptoF_succ]; exact hJ3, Lib.hid (HBL1.out.trans HK3.out.1), Lib.hid (Nat.le_trans HZ1.out HK3.out.1.size), Lib.hid (HK3.out.2 HBS1.out)⟩
        case measure => simp [intOf] <;> omega
      · gi_wp2
        refine bodyPost_ret (results_none rfl _ _ _) rfl ?_
        exact ⟨⟨_, rfl⟩, .inr ⟨_, trivial, hJx3⟩⟩
    · obtain rfl : k = cnt := by omega
      gi_wp2
      go_end0
      exact ⟨⟨_, rfl⟩, .inl ⟨_, rfl, hJs⟩⟩
theorem stops_given (b1 Bn Bs n₀ cnt m : Nat) (hm : 1 ≤ m) (f : Nat → Int × Int) (w0 w : World)
    (hS : ∀ W k, Below n₀ w0 W → k < cnt → Calls Try.prog 108 #[.int .i64 k, .pointer (some ⟨b1, 0, none⟩)] W fun e W' => e = .returned (.agg #[.int .i64 (f k).1, .int .i64 (f k).2]) ∧ Below W.heap.size W W')
    (hcnt : cnt ≤ 1048576) (hlt : Bn < w.heap.size) (hBn : w.cell? ⟨Bn, 0, none⟩ = some (.int .i64 cnt)) (hBs : Boxed w Bs 139 (.func (.func 108) #[] #[.pointer (some ⟨b1, 0, none⟩)])) (hn₀ : n₀ ≤ w.heap.size) (hbel : Below n₀ w0 w) :
    SeqStopsK Fence.wide m Try.prog 121 #[.pointer (some ⟨Bn, 0, none⟩), .pointer (some ⟨Bs, 0, none⟩)] encP (KpS n₀ Bs (.func (.func 108) #[] #[.pointer (some ⟨b1, 0, none⟩)])) (fun ys => ys = uptoF f cnt) (fun _ => True) cnt w := fun l J Jx W hW hJ _ hY h0 =>
  i_it_given b1 l Bn Bs n₀ cnt m hm f w0 hS hcnt J Jx W hJ hY ((hW.cell (p := ⟨Bn, 0, none⟩) hlt).trans hBn) ((hW.block Bs hBs.lt).trans hBs) (Nat.le_trans hn₀ hW.size) (hbel.trans (hW.mono hn₀)) h0

set_option maxHeartbeats 4000000 in
theorem i_listed_given (b1 cnt : Nat) (hcnt : cnt ≤ 1048576) (f : Nat → Int × Int) (w : World)
    (hS : ∀ W k, Below w.heap.size w W → k < cnt → Calls Try.prog 108 #[.int .i64 k, .pointer (some ⟨b1, 0, none⟩)] W fun e W' => e = .returned (.agg #[.int .i64 (f k).1, .int .i64 (f k).2]) ∧ Below W.heap.size W W') :
    Calls Try.prog 107 #[.int .i64 cnt, .func (.func 108) #[] #[.pointer (some ⟨b1, 0, none⟩)]] w fun e w' => ∃ g, e = .returned g ∧ OwPointS w' w.heap.size w'.heap.size g (uptoF f cnt) ∧ Below w.heap.size w w' := by
  refine (callsIn_wide (n := 9)).1 ?_
  obtain ⟨i0, hi, hz0, hz1, hz2⟩ := info_parts info_pt
  have hmk := fun W => run_make0 (P := Try.prog) Try.underlying50 info_pt cnt (by omega) (by omega) W
  have hcap : (madeCells (Value.agg #[.int .i64 0, .int .i64 0]).cells (cnt * 2)).size = cnt * 2 := madeCells_size _ _
  obtain ⟨cs, hcs⟩ : ∃ cs, madeCells (Value.agg #[.int .i64 0, .int .i64 0]).cells (cnt * 2) = cs := ⟨_, rfl⟩
  rw [hcs] at hmk hcap
  have HCAP := Lib.hid hcap
  clear hcs hcap
  have c0 : (0 : Int) ≤ (cnt : Int) := by omega
  refine callsIn_of_wp_marks Try.func107 rfl trivial ?_ rfl
  simp only [Try.ntmps107, List.size_toArray, List.length_cons, List.length_nil, Nat.reduceAdd, Nat.reduceSub, Array.replicate_succ, Array.replicate_zero, List.push_toArray, List.append_toArray, List.nil_append, List.cons_append]
  gi_wp2_with (refine ⟨trivial, ?_⟩
               gi_at_call 117
               refine (callsIn_wide.2 (i_shares _ _ _ _ _)).mono ?_
               rintro e w' ⟨rfl, rfl⟩)
  have bL := ((Boxed.new (w.alloc (.cells cs 61)) 50 (.slice (some ⟨w.heap.size, 0, none⟩) 0 cnt)).alloc (.cells #[.int .i64 cnt] 3)).alloc (.cells #[(.func (.func 108) #[] #[.pointer (some ⟨b1, 0, none⟩)])] 139)
  have bN := (Boxed.new ((w.alloc (.cells cs 61)).alloc (.cells #[.slice (some ⟨w.heap.size, 0, none⟩) 0 cnt] 50)) 3 (.int .i64 cnt)).alloc (.cells #[(.func (.func 108) #[] #[.pointer (some ⟨b1, 0, none⟩)])] 139)
  have bS := Boxed.new (((w.alloc (.cells cs 61)).alloc (.cells #[.slice (some ⟨w.heap.size, 0, none⟩) 0 cnt] 50)).alloc (.cells #[.int .i64 cnt] 3)) 139 (.func (.func 108) #[] #[.pointer (some ⟨b1, 0, none⟩)])
  have hrow := (((own_make0 w cs 61 2 cnt HCAP.out (by unfold maxLen; omega)).alloc (.cells #[.slice (some ⟨w.heap.size, 0, none⟩) 0 cnt] 50)).alloc (.cells #[.int .i64 cnt] 3)).alloc (.cells #[(.func (.func 108) #[] #[.pointer (some ⟨b1, 0, none⟩)])] 139)
  simp only [World.size_alloc] at bL bN bS
  have hB0 := ((((Below.refl w.heap.size w).alloc (Nat.le_refl _) (.cells cs 61)).alloc (by simp) (.cells #[.slice (some ⟨w.heap.size, 0, none⟩) 0 cnt] 50)).alloc (by simp; omega) (.cells #[.int .i64 cnt] 3)).alloc (by simp; omega) (.cells #[(.func (.func 108) #[] #[.pointer (some ⟨b1, 0, none⟩)])] 139)
  have hsz : ((((w.alloc (.cells cs 61)).alloc (.cells #[.slice (some ⟨w.heap.size, 0, none⟩) 0 cnt] 50)).alloc (.cells #[.int .i64 cnt] 3)).alloc (.cells #[(.func (.func 108) #[] #[.pointer (some ⟨b1, 0, none⟩)])] 139)).heap.size = w.heap.size + 4 := by simp
  obtain ⟨W0, hW0⟩ : ∃ W0, (((w.alloc (.cells cs 61)).alloc (.cells #[.slice (some ⟨w.heap.size, 0, none⟩) 0 cnt] 50)).alloc (.cells #[.int .i64 cnt] 3)).alloc (.cells #[(.func (.func 108) #[] #[.pointer (some ⟨b1, 0, none⟩)])] 139) = W0 := ⟨_, rfl⟩
  rw [hW0] at bL bN bS hrow hB0 hsz ⊢
  clear hW0 hmk
  refine wpIn_rangeFunc_ownH rfl (by decide) (gf := 121) (lb := #[.pointer (some ⟨w.heap.size + 1 + 1, 0, none⟩), .pointer (some ⟨w.heap.size + 1 + 1 + 1, 0, none⟩)]) rfl trivial (enters_of Try.func121 (by kernel_rfl) rfl)
    (stops_given b1 (w.heap.size + 1 + 1) (w.heap.size + 1 + 1 + 1) w.heap.size cnt (9 - 1) (by decide) f w W0 hS hcnt (by omega) bN.cell bS (by omega) hB0) KpS_t (KpS_b (by omega)) (Below.refl _ _) (fun _ => rfl)
    (fun pre W => ((∃ v, Boxed W (w.heap.size + 1) 50 v ∧ W.ownsRow w.heap.size 61 2 v pre.length (cP pre) ∧ True) ∧ Below w.heap.size w W))
    (fun _ _ _ => False)
    (OwnFrom.and (Own.from (holdsRow_own w.heap.size (w.heap.size + 1) 50 61 2 (fun (pre : List (Int × Int)) => pre.length) (fun pre => cP pre) (fun _ _ => True)) _) (ownFrom_below (Nat.le_refl _) (by omega)))
    (fun _ _ _ _ _ hs _ _ => hs)
    ⟨⟨_, bL, hrow, trivial⟩, hB0⟩
    (fun x a' W => ∃ Bx, w.heap.size ≤ Bx ∧ W.heap[Bx]? = some (.cells #[.int .i64 x.1, .int .i64 x.2] 61 (0, 0)) ∧ a' = { tmps := #[.int .i64 cnt, (.func (.func 108) #[] #[.pointer (some ⟨b1, 0, none⟩)]), undef, undef, .slice none 0 0, .pointer (some ⟨w.heap.size + 1, 0, none⟩), .pointer (some ⟨Bx, 0, none⟩), .int .i64 cnt, .slice (some ⟨w.heap.size, 0, none⟩) 0 cnt, .int .i64 cnt, (.func (.func 108) #[] #[.pointer (some ⟨b1, 0, none⟩)]), .func (.func 121) #[] #[.pointer (some ⟨w.heap.size + 1 + 1, 0, none⟩), .pointer (some ⟨w.heap.size + 1 + 1 + 1, 0, none⟩)], .agg #[.int .i64 x.1, .int .i64 x.2], undef, undef, undef, undef, undef], defers := [] })
    (fun x a' _ X Y row hs hg hr => by
      obtain ⟨Bx, h1, h2, h3⟩ := hs
      refine ⟨Bx, h1, (hg.block Bx (Array.getElem?_eq_some_iff.1 h2).1 (fun e => ?_)).trans h2, h3⟩
      obtain ⟨_, o, ho, hc⟩ := hr Bx e.symm
      rw [h2] at ho; cases ho; cases hc)
    ?assign ?body ?done ?stop
  case assign =>
    rintro l pre x W K ⟨⟨v, hv, hr, _⟩, hB⟩ hK
    simp only [encP]
    gi_wp2
    exact hK _ _ ((KeepsOthers.alloc _ _).from _) ⟨(Below.refl _ W).alloc hB.size _, fun h => h.alloc _⟩ ⟨⟨v, hv.alloc _, hr.alloc _, trivial⟩, hB.alloc hB.size _⟩ ⟨W.heap.size, hB.size, heap_alloc_new _ _, rfl⟩
  case body =>
    rintro l pre x a' W hl ⟨r, hr⟩ ⟨⟨v, hv, hrow, _⟩, hB⟩ ⟨Bx, hBx, bX, rfl⟩ hlt
    have cL := hv.cell
    have cX0 : W.cell? ⟨Bx, 0, none⟩ = some (.int .i64 x.1) := by rw [cell_of_row W Bx 0 _ _ _ bX]; rfl
    have cX1 : W.cell? ⟨Bx, 1, none⟩ = some (.int .i64 x.2) := by rw [cell_of_row W Bx 1 _ _ _ bX]; rfl
    gi_wp2_with (gi_at_builtin
                 refine wpListIn_append_own _ rfl _ _ 50 rfl w.heap.size 61 i0 _ 2 16 Try.underlying50 hi hz0 hz1 hz2 rfl (by decide) _ _ _ rfl (hrow.alloc _) ⟨W.heap.size, 0, none⟩ 1 1 [.int .i64 x.1, .int .i64 x.2] rfl rfl (cell_two_new _ _ _ _) (by simp [Value.oneCell']) (by unfold maxLen; omega) (by omega) (by have := hB.size; simp; omega) ?_
                 intro v' w1 hown' hgrow _
                 obtain ⟨g', cap', rfl⟩ := ownsRow_succ hown'
                 obtain ⟨hv1, hv2, hr2, hk2, hb2⟩ := hv.appended (by decide) hrow hB.size (by omega) hown' hgrow
                 have hc1 := hv1.cell
                 have hf1 := hv1.frozen
                 have hbs : Boxed W (w.heap.size + 1 + 1 + 1) 139 (.func (.func 108) #[] #[.pointer (some ⟨b1, 0, none⟩)]) → Boxed (w1.setCell ⟨w.heap.size + 1, 0, none⟩ (.slice (some ⟨g', 0, none⟩) (pre.length + 1) cap')) (w.heap.size + 1 + 1 + 1) 139 (.func (.func 108) #[] #[.pointer (some ⟨b1, 0, none⟩)]) := fun h =>
                   ((h.alloc _).kept hgrow (h.not_row (by decide) hrow)).other (by omega) _)
    exact ⟨hk2.from _, ⟨hb2, hbs⟩, ⟨⟨_, hv2, by rw [cP_append, List.length_append]; exact hr2, trivial⟩, hB.trans hb2⟩⟩
  case done =>
    rintro D ys W hD rfl ⟨⟨v, hv, hrow, _⟩, hB⟩ hK
    have cL := hv.cell
    gi_wp2
    refine ⟨by simp, .inl ⟨_, _, rfl, run_takeDeferred hK, ?_⟩⟩
    refine ⟨_, results_tmp rfl _ _ _, v, rfl, ?_, hB.trans (belowK_b (w := w) (Nat.le_refl _) W D _ _ (by omega) hK rfl rfl)⟩
    exact done_pts (ownsRow_putObj hrow _ hK rfl) (by rw [uptoF_length]; exact hcnt)
  case stop =>
    rintro D c pre W _ _ h _
    exact h.elim
end Go.Proofs.Ytbnobkojkfmccaa

/- append where the two types differ in name. -/
namespace Go.Proofs.Ytbnobkojkfmccaa
open Go.RowKit

theorem append_types {P : Program} {t t2 ty e e2 : TypeId} (ht : P.underlying t = some (.slice e)) (ht2 : P.underlying t2 = some (.slice e2)) (args : Array Value) (w : World) :
    (Builtin.append_ #[t, t2] ty args).run P w = (Builtin.append_ #[t, t] ty args).run P w := by
  unfold Builtin.append_
  cases args[0]? <;> cases args[1]? <;> simp [run_underlying ht]
  split <;> simp [run_underlying ht, run_underlying ht2]
theorem wpList_append_rd2 {P : Program} {w : World} {ops : Array Oper} {rest : List Oper} {o : Oper} {a : Act} {Q : Exit → Act → World → Prop} (hgd : o.guard = none) (s x : Operand) (t t2 e2 : TypeId)
    (ho : o.op = .call { callee := .builtin .append, args := #[s, x], argTypes := #[t, t2] })
    (base : Nat) (e : TypeId) (z : Value) (size bytes : Nat) (ht : P.underlying t = some (.slice e)) (ht2 : P.underlying t2 = some (.slice e2)) (hi : (P.info? e).map (fun i => (i.zero, i.size, i.bytes)) = some (some z, size, bytes))
    (hzs : z.cells.size = size) (hsz : 0 < size) (v : Value) (n : Nat) (xs : List Value) (hs : a.eval s = v) (hown : w.ownsRow base e size v n xs)
    (hb : Nat) (A : Option Addr) (m c : Nat) (news : List Value) (hx : a.eval x = .slice A m c) (hr : Rd w hb size A m news) (h1 : ∀ u ∈ news, u.oneCell' = true)
    (h63 : n + m ≤ maxLen) (hbytes : (n + m) * bytes ≤ 140737488355328) (hbase : base ≤ w.heap.size)
    (h : ∀ v' w', w'.ownsRow base e size v' (n + m) (xs ++ news) → w.grownBy w' v.ownBlock → (v'.ownBlock = v.ownBlock ∨ v'.ownBlock = some w.heap.size) → wpList P ops Q rest (a.put o.dst v') w') :
    wpList P ops Q (o :: rest) a w := by
  refine wpList_plain hgd fun K hK => ?_
  obtain ⟨v', w', hrun, h2, h3, h4⟩ := run_append_rd (P := P) (w := w) base t o.type e z size bytes ht hi hzs hsz v n xs hown hb A m c news hr h1 h63 hbytes hbase
  rw [← append_types ht ht2] at hrun
  unfold Oper.wp execOp
  simp only [ho, resolve, invoke, builtin, Sem.run_bind, Sem.run_pure, Result.andThen_ok, List.map_toArray, List.map_cons, List.map_nil, hs, hx, hrun]
  exact hK _ _ (h v' w' h2 h3 h4)
end Go.Proofs.Ytbnobkojkfmccaa

/- Chapter 4: SharesOf, in the model and in the program. -/
namespace Go.Proofs.Ytbnobkojkfmccaa
open Go.RowKit Go.Shelf
set_option maxRecDepth 100000

set_option maxHeartbeats 1000000 in
theorem i_secretWith (s : Int) (A : Option Addr) (m c : Nat) (zs : List Int) (w : World) (h : Rd w w.heap.size 1 A m (cI zs)) (hm : m ≤ 1000) :
    Calls Try.prog 87 #[.int .i64 s, .slice A m c] w fun e w' => ∃ A' c', e = .returned (.slice A' (1 + m) c') ∧ Ow w' w.heap.size w'.heap.size 3 1 A' (1 + m) c' (cI (s :: zs)) ∧ Below w.heap.size w w' := by
  have HLIT := Lib.hid (lit_int w s)
  have HRD : Hid (Rd (w.alloc (.cells #[.int .i64 s] 3)) w.heap.size 1 A m (cI zs)) := Lib.hid (h.below ((Below.refl _ _).alloc (Nat.le_refl _) _))
  clear h
  go_enter Try.func87, Try.ntmps87
  go_wp2_with (at_builtin
               refine wpList_append_rd2 rfl (.tmp 6) (.tmp 7) 106 27 3 rfl w.heap.size 3 _ 1 8 Try.underlying106 Try.underlying27 info_int rfl (by decide) (.slice (some ⟨w.heap.size, 0, none⟩) 1 1) 1 [.int .i64 s] rfl HLIT.out _ A m c (cI zs) rfl HRD.out (cI_one _) (by unfold maxLen; omega) (by omega) (by simp) ?_
               intro v5 w5 hown hgr hat
               obtain ⟨A5, c5, hv5, ho5⟩ := Ow.of_own hown
               subst hv5
               have HO5 : Hid (Ow w5 w.heap.size w5.heap.size 3 1 A5 (1 + m) c5 (cI (s :: zs))) := Lib.hid ho5
               have HB5 : Hid (Below w.heap.size w w5) := Lib.hid (below_grown ((Below.refl _ _).alloc (Nat.le_refl _) _) hgr (fun g e => by simp [Value.ownBlock] at e; omega) (by simp))
               clear hown hgr hat ho5)
  go_ret
  exact ⟨_, _, rfl, HO5.out, HB5.out⟩

set_option maxHeartbeats 1000000 in
theorem i_given1 (b1 : Nat) (A : Option Addr) (n c k : Nat) (cs : List Int) (w : World) (hb1 : w.cell? ⟨b1, 0, none⟩ = some (.slice A n c)) (hl1 : b1 < w.heap.size) (H : Rd w w.heap.size 1 A n (cI cs)) (hn : n ≤ 1048576) (hz : Nums cs) (hk : k < 20) :
    Calls Try.prog 108 #[.int .i64 k, .pointer (some ⟨b1, 0, none⟩)] w fun e w' => e = .returned (.agg #[.int .i64 (shF cs k).1, .int .i64 (shF cs k).2]) ∧ Below w.heap.size w w' := by
  have HB := (Below.refl w.heap.size w).alloc (Nat.le_refl _) (.cells #[.int .i64 0, .int .i64 0] 61)
  have hc1 := (HB.cell (p := ⟨b1, 0, none⟩) hl1).trans hb1
  have HRD := Lib.hid ((H.below HB).more (show w.heap.size ≤ (w.alloc (.cells #[.int .i64 0, .int .i64 0] 61)).heap.size by simp))
  have HBB := Lib.hid HB
  have hn0 : (w.alloc (.cells #[.int .i64 0, .int .i64 0] 61)).cell? ⟨w.heap.size, 0, none⟩ = some (.int .i64 0) := World.cell?_alloc_new w _ _ 0
  have hn1 : (w.alloc (.cells #[.int .i64 0, .int .i64 0] 61)).cell? ⟨w.heap.size, 1, none⟩ = some (.int .i64 0) := World.cell?_alloc_new w _ _ 1
  have hf := fun j => (Ow.new w #[.int .i64 0, .int .i64 0] 61 2 1 rfl).free (by omega) j
  have HNU := Lib.hid hz
  clear H HB hz
  have i0 : (0 : Int) ≤ (k : Int) := by omega
  have i1 : (k : Int) < 20 := by omega
  have hf0 := hf 0
  have hf1 := hf 1
  clear hf
  obtain ⟨W1, HW1⟩ : ∃ W1, Hid (w.alloc (.cells #[.int .i64 0, .int .i64 0] 61) = W1) := ⟨_, Lib.hid rfl⟩
  have HC1 := Lib.hid hc1
  have HN0 := Lib.hid (And.intro hn0 (And.intro hn1 (And.intro hf0 hf1)))
  clear hc1 hn0 hn1 hf0 hf1
  rw [HW1.out] at HC1 HN0 HBB HRD
  go_enter Try.func108, Try.ntmps108
  go_wp2_with fail
  rw [HW1.out]
  clear hb1
  refine (i_polynomial_at _ _ _ _ _ _ HRD.out HNU.out hn (by omega) (by omega)).mono ?_
  rintro e w2 ⟨rfl, q, rfl⟩
  obtain ⟨hn0, hn1, hf0, hf1⟩ := HN0.out
  go_wp2
  refine bodyPost_ret (v := .agg #[.int .i64 ((k : Int) + 1), .int .i64 (atI cs ((k : Int) + 1))]) (by simp [results, Try.results108, go_sem, hn0, hn1]) rfl ⟨rfl, ?_⟩
  exact ((below_drewN HBB.out q).setCell (p := ⟨w.heap.size, 0, none⟩) (Nat.le_refl _) _).setCell (p := ⟨w.heap.size, 1, none⟩) (Nat.le_refl _) _

set_option maxHeartbeats 1000000 in
theorem i_given (A : Option Addr) (n c N : Nat) (cs : List Int) (w : World) (H : Rd w w.heap.size 1 A n (cI cs)) (hn : n ≤ 1048576) (hz : Nums cs) (hN : N ≤ 20) :
    Calls Try.prog 86 #[.slice A n c, .int .i64 N] w fun e w' => ∃ g, e = .returned g ∧ OwPointS w' w.heap.size w'.heap.size g (uptoF (shF cs) N) ∧ Below w.heap.size w w' := by
  obtain ⟨w0, HW0⟩ : ∃ w0, Hid (w.alloc (.cells #[.slice A n c] 106) = w0) := ⟨_, Lib.hid rfl⟩
  have HB0 : Hid (Below w.heap.size w w0) := Lib.hid (HW0.out ▸ (Below.refl _ _).alloc (Nat.le_refl _) _)
  have HZ0 : Hid (w0.heap.size = w.heap.size + 1) := Lib.hid (by rw [← HW0.out]; simp)
  have HRD : Hid (Rd w0 w0.heap.size 1 A n (cI cs)) := Lib.hid ((H.below HB0.out).more (by have := HZ0.out; omega))
  have HC1 : Hid (w0.cell? ⟨w.heap.size, 0, none⟩ = some (.slice A n c)) := Lib.hid (by rw [← HW0.out]; exact (Boxed.new w _ _).cell)
  clear H
  go_enter Try.func86, Try.ntmps86
  go_wp2_with fail
  rw [HW0.out]
  refine (i_listed_given w.heap.size N (by omega) (shF cs) _ (fun W k hW hk => ?_)).mono ?_
  · exact i_given1 w.heap.size A n c k cs W ((hW.cell (p := ⟨w.heap.size, 0, none⟩) (by have := HZ0.out; simp; omega)).trans HC1.out) (by have := HZ0.out; have := hW.size; omega) ((HRD.out.below hW).more hW.size) hn hz (by omega)
  · rintro e w3 ⟨g, rfl, ho, hb3⟩
    have HO := Lib.hid (ho.widen (show w.heap.size ≤ _ by have := HZ0.out; omega) (Nat.le_refl _))
    have HB3 := Lib.hid (HB0.out.trans (hb3.mono (by have := HZ0.out; omega)))
    clear ho hb3
    go_wp2
    go_ret
    exact ⟨_, rfl, HO.out, HB3.out⟩
end Go.Proofs.Ytbnobkojkfmccaa

/- Chapter 4: SharesOf as the laws meet it. -/
namespace Go.Proofs.Ytbnobkojkfmccaa
open Go.RowKit Go.Shelf
set_option maxHeartbeats 2000000 in
theorem X_i_SharesOf (v : Value) (s n : Int) (d : List Int) (w : World) (h : RdIntS w w.heap.size v d) (hs : szIntS d ≤ 1048576) :
    Calls Try.prog 47 #[.int .i64 s, .int .i64 n, v] w fun e w' => ∃ g, e = .returned (.tuple #[g, .bool (R_SharesOf_1 s n d)]) ∧ OwPointS w' w.heap.size w'.heap.size g (R_SharesOf_0 s n d) ∧ Below w.heap.size w w' := by
  obtain ⟨A, m, c, rfl, hm, r⟩ := h
  have hn : m ≤ 1048576 := by have := r.len; unfold szIntS at hs; omega
  have hl := Lib.hid r.len
  have H := Lib.hid r
  clear r hs hm
  cases h1 : numB s
  · have HF := of_no (s := s) (n := n) (t := d) (by simp [ofB, h1])
    go_enter Try.func47, Try.ntmps47
    go_wp2_with fail
    refine (i_NumOk _ _).mono ?_
    rintro e w1 ⟨rfl, rfl⟩
    rw [h1]
    go_wp2
    go_ret2
    refine ⟨_, ret_vb HF.out.1.symm, ?_, Below.refl _ _⟩
    rw [HF.out.2]; exact OwPointS.nil_ _ _ _
  · cases h2 : numsB d
    · have HF := of_no (s := s) (n := n) (t := d) (by simp [ofB, h2])
      go_enter Try.func47, Try.ntmps47
      go_wp2_with fail
      refine (i_NumOk _ _).mono ?_
      rintro e w1 ⟨rfl, rfl⟩
      rw [h1]
      go_wp2_with fail
      refine (i_numbersOk _ _ _ _ _ H.out hn).mono ?_
      rintro e w1 ⟨rfl, rfl⟩
      rw [h2]
      go_wp2
      go_ret2
      refine ⟨_, ret_vb HF.out.1.symm, ?_, Below.refl _ _⟩
      rw [HF.out.2]; exact OwPointS.nil_ _ _ _
    · by_cases h3 : (1 ≤ n ∧ n ≤ 7) ∧ (m : Int) < n
      · obtain ⟨⟨h31, h37⟩, h4⟩ := h3
        obtain ⟨N, rfl⟩ := Int.eq_ofNat_of_zero_le (show 0 ≤ n by omega)
        have HX : Hid (ofB s N d = true) := Lib.hid (by
          unfold ofB; rw [h1, h2, inB_t ⟨h31, h37⟩, hl.out, decide_eq_true h4]; rfl)
        have hs1 := Lib.hid ((numB_iff s).1 h1)
        have hd1 := Lib.hid (nums_of_B h2)
        have HF1 : Hid (R_SharesOf_1 s N d = true) := Lib.hid HX.out
        have HF2 : Hid (R_SharesOf_0 s N d = uptoF (shF (s :: d)) N) := Lib.hid (by unfold R_SharesOf_0; rw [if_pos HX.out]; rfl)
        have HN7 : Hid (N ≤ 7) := Lib.hid (by omega)
        have HM : Hid (m ≤ 1000) := Lib.hid (by omega)
        go_enter Try.func47, Try.ntmps47
        go_wp2_with fail
        refine (i_NumOk _ _).mono ?_
        rintro e w1 ⟨rfl, rfl⟩
        rw [h1]
        go_wp2_with fail
        refine (i_numbersOk _ _ _ _ _ H.out hn).mono ?_
        rintro e w1 ⟨rfl, rfl⟩
        rw [h2]
        clear h1 h2
        go_wp2_with fail
        refine (i_secretWith _ _ _ _ _ _ H.out HM.out).mono ?_
        rintro e w2 ⟨A2, c2, rfl, ho, hb⟩
        have HRD := Lib.hid ho.rd
        have HB2 := Lib.hid hb
        clear ho hb
        go_wp2_with fail
        refine (i_given _ _ _ _ _ _ HRD.out (by have := HM.out; omega) (nums_cons hs1.out hd1.out) (Nat.le_trans HN7.out (by decide))).mono ?_
        rintro e w3 ⟨g, rfl, ho, hb⟩
        have HO := Lib.hid (ho.widen HB2.out.size (Nat.le_refl _))
        have HB3 := Lib.hid (HB2.out.trans (hb.mono HB2.out.size))
        clear ho hb
        go_wp2
        go_ret2
        exact ⟨_, ret_vb HF1.out.symm, by rw [HF2.out]; exact HO.out, HB3.out⟩
      · have HF := of_no (s := s) (n := n) (t := d) (by
          unfold ofB
          by_cases h5 : 1 ≤ n ∧ n ≤ 7
          · rw [hl.out, decide_eq_false (fun h => h3 ⟨h5, h⟩)]; simp
          · rw [inB_f h5]; simp)
        have h5 : n < 1 ∨ 7 < n ∨ n ≤ (m : Int) := by omega
        clear h3
        by_cases k1 : n < 1
        all_goals by_cases k2 : 7 < n
        all_goals
          go_enter Try.func47, Try.ntmps47
          go_wp2_with fail
          refine (i_NumOk _ _).mono ?_
          rintro e w1 ⟨rfl, rfl⟩
          rw [h1]
          go_wp2_with fail
          refine (i_numbersOk _ _ _ _ _ H.out hn).mono ?_
          rintro e w1 ⟨rfl, rfl⟩
          rw [h2]
          go_wp2
          all_goals first
            | (go_ret2
               refine ⟨_, ret_vb HF.out.1.symm, ?_, Below.refl _ _⟩
               rw [HF.out.2]; exact OwPointS.nil_ _ _ _)
            | (exfalso; omega)
end Go.Proofs.Ytbnobkojkfmccaa

/- P26: what SharesExplain tells gives just these shares. -/
namespace Go.Proofs.Ytbnobkojkfmccaa
open Go.RowKit
set_option maxRecDepth 100000

theorem expl_at {s : Int} {d : List (Int × Int)} (h : R_SharesExplain_1 s d = true) (i : Nat) (hi : i < d.length) :
    (1 ≤ px d i ∧ px d i ≤ 7) ∧ atI (s :: expL s d) (px d i) = py d i := by
  simp only [R_SharesExplain_1, expB, Bool.and_eq_true, decide_eq_true_eq] at h
  obtain ⟨hs, h6, hsh⟩ := h
  have hG := exp_good hs hsh h6
  have hsr := (numB_iff s).1 hs
  have hT := (thrS_at hG (1 + d.length) (Nat.le_refl _)).1
  have hN := thrS_nums ((0, s) :: d) (1 + d.length) (1 + d.length)
  have hL := thrS_len ((0, s) :: d) (1 + d.length) (1 + d.length) (Nat.le_refl _)
  have hx : 1 ≤ px d i ∧ px d i ≤ 7 := by
    simp only [shB, Bool.and_eq_true] at hsh
    exact xsK_at hsh.2 hi
  refine ⟨hx, ?_⟩
  have h0 : (thrS ((0, s) :: d) (1 + d.length) (1 + d.length)).getD 0 0 = s := by
    have := hT 0 (by omega)
    rw [show px ((0, s) :: d) 0 = 0 from rfl, show py ((0, s) :: d) 0 = s from rfl] at this
    have hz : sv (thrS ((0, s) :: d) (1 + d.length) (1 + d.length)) 0 = (thrS ((0, s) :: d) (1 + d.length) (1 + d.length)).getD 0 0 := by
      cases thrS ((0, s) :: d) (1 + d.length) (1 + d.length) with
      | nil => rfl
      | cons a l => simp [sv]
    rw [hz] at this
    have := hN 0
    omega
  have he : ∀ j, (s :: expL s d).getD j 0 = (thrS ((0, s) :: d) (1 + d.length) (1 + d.length)).getD j 0 := fun j => by
    cases j with
    | zero => rw [h0]; rfl
    | succ j =>
      by_cases hj : j < d.length
      · rw [← expL_get s d j hj]; rfl
      · rw [show (s :: expL s d).getD (j + 1) 0 = (expL s d).getD j 0 from rfl]
        rw [List.getD_eq_getElem?_getD, List.getD_eq_getElem?_getD, List.getElem?_eq_none (by rw [expL_length]; omega), List.getElem?_eq_none (by omega)]
  have hp := hT (i + 1) (by omega)
  rw [show px ((0, s) :: d) (i + 1) = px d i by simp [px], show py ((0, s) :: d) (i + 1) = py d i by simp [py]] at hp
  rw [atI_sv, sv_ext _ _ he, hp]
theorem expl_nums {s : Int} {d : List (Int × Int)} (h : R_SharesExplain_1 s d = true) : R_SharesOf_1 s 7 (expL s d) = true ∧ d.length ≤ 6 := by
  simp only [R_SharesExplain_1, expB, Bool.and_eq_true, decide_eq_true_eq] at h
  obtain ⟨hs, h6, hsh⟩ := h
  have hN := thrS_nums ((0, s) :: d) (1 + d.length) (1 + d.length)
  refine ⟨?_, h6⟩
  unfold R_SharesOf_1 ofB
  rw [hs, inB_t ⟨by omega, by omega⟩, expL_length, decide_eq_true (by omega)]
  have : numsB (expL s d) = true := by
    unfold numsB
    rw [List.all_eq_true]
    intro z hz
    simp only [expL, List.mem_map, List.mem_range] at hz
    obtain ⟨j, _, rfl⟩ := hz
    exact (numB_iff _).2 (hN (j + 1))
  rw [this]; rfl

set_option maxHeartbeats 1000000 in
theorem u_uvInts (A A' : Option Addr) (n c c' : Nat) (d : List Int) (w : World) (h : Rd w w.heap.size 1 A n (cI d)) (h' : Rd w w.heap.size 1 A' n (cI d)) (hn : n ≤ 1048576) :
    Calls Try.prog 46 #[.slice A n c, .slice A' n c'] w fun e w' => e = .returned (.bool true) ∧ Below w.heap.size w w' := by
  have H := Lib.hid h
  have H' := Lib.hid h'
  clear h h'
  go_enter Try.func46, Try.ntmps46
  go_wp2
  go_loopw [5] (fun i wr => ∃ k m : Nat, k ≤ n ∧ i = .int .i64 k ∧ wr = w.drewN m) (fun i _ => n - (intOf i).toNat)
  case atStart => exact ⟨0, 0, Nat.zero_le _, rfl, rfl⟩
  case round =>
    obtain ⟨k, m, hk, rfl, rfl⟩ := hrel
    by_cases hlt : k < n
    · obtain ⟨a, x, rfl, hab, hx, HP⟩ := H.out.intAt hlt
      obtain ⟨a', x', rfl, hab', hx', HP'⟩ := H'.out.intAt hlt
      obtain rfl : x' = x := by rw [HP.out, HP'.out]
      have i0 : (0 : Int) ≤ (k : Int) := by omega
      have i1 : (k : Int) < (n : Int) := by omega
      clear HP HP'
      go_wp2
      go_quiet (fail)
      go_wp2
      go_roundw
      case rel => exact ⟨k + 1, _, by omega, by go_num, rfl⟩
      case measure => simp [intOf] <;> omega
    · go_wp2
      go_ret
      exact ⟨rfl, below_drewN (Below.refl _ _) _⟩
end Go.Proofs.Ytbnobkojkfmccaa

/- Lists of truths as whole values: cells, the laws' own helpers, what a law hands from call to call. -/
namespace Go.Proofs.Ytbnobkojkfmccaa
open Go.RowKit
set_option maxRecDepth 100000

/-- truths as cells -/
def cB (xs : List Bool) : List Value := xs.map Value.bool
theorem cB_length (xs : List Bool) : (cB xs).length = xs.length := by simp [cB]
theorem cB_get (xs : List Bool) (j : Nat) (h : j < xs.length) : (cB xs)[j]? = some (.bool (xs.getD j false)) := by
  simp [cB, h]
theorem cB_set (zs : List Bool) (j : Nat) (v : Bool) : (cB zs).set j (.bool v) = cB (zs.set j v) := by simp [cB, List.map_set]
theorem cB_zeros (n : Nat) : List.replicate n (Value.bool false) = cB (List.replicate n false) := by simp [cB]
theorem cB_one (zs : List Bool) : ∀ u ∈ cB zs, u.oneCell' = true := by
  intro u hu
  obtain ⟨b, _, rfl⟩ := List.mem_map.1 hu
  rfl
section
variable {w w' : World} {lo hi lo' hi' e n c : Nat} {A : Option Addr} {zs : List Bool}
theorem Rd.blen (h : Rd w hi 1 A n (cB zs)) : zs.length = n := by have := h.1; rw [cB_length] at this; omega
theorem Ow.blen (h : Ow w lo hi e 1 A n c (cB zs)) : zs.length = n := by have := h.1; rw [cB_length] at this; omega
theorem Rd.boolAt (h : Rd w hi 1 A n (cB zs)) {k : Nat} (hk : k < n) : ∃ (a : Addr) (z : Bool), A = some a ∧ a.block < hi ∧ w.cell? (a.add k) = some (.bool z) ∧ Hid (z = zs.getD k false) := by
  obtain ⟨a, e, hb, hc⟩ := h.2 (by omega)
  exact ⟨a, _, e, hb, hc k _ (cB_get zs k (by have := h.blen; omega)), Lib.hid rfl⟩
theorem Ow.boolAt {a : Option Nat} {g k : Nat} (h : Ow w lo hi e 1 (some ⟨g, 0, a⟩) n c (cB zs)) (hk : k < n) : ∃ z : Bool, w.cell? ⟨g, k, none⟩ = some (.bool z) ∧ Hid (z = zs.getD k false) :=
  ⟨_, h.cellAt (cB_get zs k (by have := h.blen; omega)), Lib.hid rfl⟩
end
theorem ret_vvb2 {g k : Value} {a b : Bool} (h : a = b) : Ending.returned (.tuple #[g, k, .bool a]) = .returned (.tuple #[g, k, .bool b]) := by rw [h]
theorem info_bool : (Try.prog.info? 4).map (fun i => (i.zero, i.size, i.bytes)) = some (some (.bool false), 1, 1) := by kernel_rfl
theorem copyB_step {zs : List Bool} {n k : Nat} (hz : zs.length = n) (hk : k < n) : (zs.take k ++ List.replicate (n - k) false).set k (zs.getD k false) = zs.take (k + 1) ++ List.replicate (n - (k + 1)) false := by
  have hl : (zs.take k).length = k := by simp; omega
  rw [List.set_append_right _ _ (by omega), hl, Nat.sub_self, show n - k = (n - (k + 1)) + 1 by omega, List.replicate_succ]
  have hk' : k < zs.length := by omega
  rw [List.set_cons_zero, List.take_succ_eq_append_getElem hk', List.append_assoc, List.singleton_append]
  simp [hk']

/-- the marks: whether K, K + 1, .. are thrice something -/
def iotaB (K : Int) (n : Nat) : List Bool := (List.range n).map fun i : Nat => (K + (i : Int)) % 3 == 0
theorem iotaB_length (K : Int) (n : Nat) : (iotaB K n).length = n := by simp [iotaB]
theorem iotaB_get (K : Int) (n j : Nat) (h : j < n) : (iotaB K n).getD j false = ((K + j) % 3 == 0) := by simp [iotaB, h]
theorem iotaB_succ (K : Int) (n : Nat) : iotaB K (n + 1) = iotaB K n ++ [(K + n) % 3 == 0] := by simp [iotaB, List.range_succ]
theorem markB_step {zs : List Bool} {n k : Nat} (K : Int) (hz : zs.length = n) (hk : k < n) : (iotaB K k ++ zs.drop k).set k ((K + k) % 3 == 0) = iotaB K (k + 1) ++ zs.drop (k + 1) := by
  have hl := iotaB_length K k
  have hk' : k < zs.length := by omega
  rw [List.set_append_right _ _ (by omega), hl, Nat.sub_self, iotaB_succ, List.append_assoc, List.drop_eq_getElem_cons hk', List.set_cons_zero, List.singleton_append]

/-- v reads as the list d, below block hi -/
def RdBoolS (w : World) (hi : Nat) (v : Value) (d : List Bool) : Prop := ∃ A n c, v = .slice A n c ∧ n ≤ 9223372036854775807 ∧ Rd w hi 1 A n (cB d)
/-- v is the list d in a block of its own between lo and hi -/
def OwBoolS (w : World) (lo hi : Nat) (v : Value) (d : List Bool) : Prop := d.length ≤ 1048576 ∧ ∃ A n c, v = .slice A n c ∧ Ow w lo hi 4 1 A n c (cB d)
def szBoolS (d : List Bool) : Nat := d.length
def mkBoolS (K : Int) (d : List Bool) : List Bool := iotaB K d.length
section
variable {w w' : World} {lo hi lo' hi' B mid : Nat} {v : Value} {d : List Bool}
theorem RdBoolS.below (h : RdBoolS w hi v d) (hb : Below hi w w') : RdBoolS w' hi v d := by
  obtain ⟨A, n, c, rfl, hn, r⟩ := h; exact ⟨A, n, c, rfl, hn, r.below hb⟩
theorem RdBoolS.more (h : RdBoolS w hi v d) (hh : hi ≤ hi') : RdBoolS w hi' v d := by
  obtain ⟨A, n, c, rfl, hn, r⟩ := h; exact ⟨A, n, c, rfl, hn, r.more hh⟩
theorem OwBoolS.small (h : OwBoolS w lo hi v d) : szBoolS d ≤ 1048576 := h.1
theorem OwBoolS.rd (h : OwBoolS w lo hi v d) : RdBoolS w hi v d := by
  obtain ⟨hs, A, n, c, rfl, r⟩ := h
  exact ⟨A, n, c, rfl, by have := r.blen; omega, r.rd⟩
theorem OwBoolS.below (h : OwBoolS w lo hi v d) (hb : Below B w w') (hz : hi ≤ B) : OwBoolS w' lo hi v d := by
  obtain ⟨hs, A, n, c, rfl, r⟩ := h; exact ⟨hs, A, n, c, rfl, r.below hb hz⟩
theorem OwBoolS.kept (h : OwBoolS w lo hi v d) (hk : Kept lo' mid w w') (hz : hi ≤ w.heap.size) (hd : mid ≤ lo ∨ hi ≤ lo') : OwBoolS w' lo hi v d := by
  obtain ⟨hs, A, n, c, rfl, r⟩ := h; exact ⟨hs, A, n, c, rfl, r.kept hk hz hd⟩
theorem OwBoolS.widen (h : OwBoolS w lo hi v d) (h1 : lo' ≤ lo) (h2 : hi ≤ hi') : OwBoolS w lo' hi' v d := by
  obtain ⟨hs, A, n, c, rfl, r⟩ := h; exact ⟨hs, A, n, c, rfl, r.widen h1 h2⟩
end
/-- a nil slice -/
theorem OwBoolS.nil_ (w : World) (lo hi : Nat) : OwBoolS w lo hi (.slice none 0 0) [] := ⟨by simp, none, 0, 0, rfl, by simp [cB], Nat.le_refl _, .inl rfl⟩

end Go.Proofs.Ytbnobkojkfmccaa

/- Whether an index lies in a list's length. -/
namespace Go.Proofs.Ytbnobkojkfmccaa
open Go.RowKit
end Go.Proofs.Ytbnobkojkfmccaa

/- Chapter 12: look-ups, the mathematics of both sides. No word of a program. -/
namespace Go.Proofs.Ytbnobkojkfmccaa
open Go.RowKit
set_option maxRecDepth 100000

def tabB (t : List Int) : Bool := inB t.length 1 16 && numsB t
def pairB (s : List Bool) (i : Int) : Bool := inB s.length 1 16 && inB i 0 (s.length - 1)
def R_PairAsk_2 (s : List Bool) (i : Int) : Bool := pairB s i
def R_PairAsk_0 (s : List Bool) (i : Int) : List Bool := if pairB s i = true then s else []
def R_PairAsk_1 (s : List Bool) (i : Int) : List Bool := if pairB s i = true then s.set i.toNat (!s.getD i.toNat false) else []
/-- the sum of the first k entries in a set -/
def setK (t : List Int) (s : List Bool) : Nat → Int
  | 0 => 0
  | k + 1 => if s.getD k false = true then (setK t s k + t.getD k 0) % 113 else setK t s k
def answB (t : List Int) (s : List Bool) : Bool := tabB t && decide (s.length = t.length)
def answV (t : List Int) (s : List Bool) : Int := if answB t s = true then setK t s t.length else 0
def ptakeB (s : List Bool) (a b i : Int) : Bool := pairB s i && (numB a && numB b)
def ptakeV (s : List Bool) (a b i : Int) : Int := if ptakeB s a b i = true then (if s.getD i.toNat false = true then (a - b) % 113 else (b - a) % 113) else 0
def maskB (i n : Int) (t : List Int) : Bool := inB i 0 15 && (inB n 1 20 && (decide (t.length ≤ 7) && numsB t))
/-- the values of a polynomial at 1, 2, .. -/
def vals (cs : List Int) (n : Nat) : List Int := (List.range n).map fun k : Nat => atI cs ((k : Int) + 1)
def R_ManyAsk_1 (i n : Int) (t : List Int) : Bool := maskB i n t
def R_ManyAsk_0 (i n : Int) (t : List Int) : List Int := if maskB i n t = true then vals (i :: t) n.toNat else []
/-- numbers as points, from a first number on -/
def ptsOf (f : Nat) (t : List Int) : List (Int × Int) := (List.range t.length).map fun i => (((f + i : Nat) : Int), t.getD i 0)
def mansB (t : List Int) (p : Int) : Bool := tabB t && numB p
def mansV (t : List Int) (p : Int) : Int := if mansB t p = true then atI (thrS (ptsOf 0 t) t.length t.length) p else 0
def mtakB (a : List Int) : Bool := inB a.length 1 20 && numsB a
def mtakV (a : List Int) : Int := if mtakB a = true then atI (thrS (ptsOf 1 a) a.length a.length) 0 else 0
def mexpB (i : Int) (d : List (Int × Int)) : Bool := inB i 0 15 && (decide (d.length ≤ 7) && shB d 112)
def R_ManyExplain_1 (i : Int) (d : List (Int × Int)) : Bool := mexpB i d
def R_ManyExplain_0 (i : Int) (d : List (Int × Int)) : List Int := if mexpB i d = true then expL i d else []

theorem setK_bd (t : List Int) (s : List Bool) (k : Nat) : 0 ≤ setK t s k ∧ setK t s k ≤ 112 := by
  induction k with
  | zero => exact ⟨by simp [setK], by simp [setK]⟩
  | succ k ih => unfold setK; split <;> omega
theorem vals_succ (cs : List Int) (n : Nat) : vals cs (n + 1) = vals cs n ++ [atI cs ((n : Int) + 1)] := by simp [vals, List.range_succ]
theorem vals_length (cs : List Int) (n : Nat) : (vals cs n).length = n := by simp [vals]
theorem vals_get (cs : List Int) (n k : Nat) (h : k < n) : (vals cs n).getD k 0 = atI cs ((k : Int) + 1) := by simp [vals, h]
theorem ptsOf_length (f : Nat) (t : List Int) : (ptsOf f t).length = t.length := by simp [ptsOf]
theorem px_ptsOf (f : Nat) (t : List Int) (i : Nat) (h : i < t.length) : px (ptsOf f t) i = ((f + i : Nat) : Int) := by simp [px, ptsOf, h]
theorem py_ptsOf (f : Nat) (t : List Int) (i : Nat) (h : i < t.length) : py (ptsOf f t) i = t.getD i 0 := by simp [py, ptsOf, h]
theorem ptsOf_good (f : Nat) (t : List Int) (hf : f + t.length ≤ 113) (ht : Nums t) : Good (ptsOf f t) t.length :=
  ⟨fun i hi => by rw [px_ptsOf f t i hi]; omega, fun i hi => by rw [py_ptsOf f t i hi]; exact ht i, fun i j hi hj hij => by rw [px_ptsOf f t i hi, px_ptsOf f t j hj]; omega⟩
/-- the first k of them -/
def ptsU (f : Nat) (t : List Int) (k : Nat) : List (Int × Int) := (List.range k).map fun i => (((f + i : Nat) : Int), t.getD i 0)
theorem ptsU_len (f : Nat) (t : List Int) : ptsU f t t.length = ptsOf f t := rfl
theorem ptsU_succ {f k : Nat} {t : List Int} {p x : Int} (hp : p = ((f + k : Nat) : Int)) (hx : x = t.getD k 0) : ptsU f t (k + 1) = ptsU f t k ++ [(p, x)] := by
  subst hp; subst hx; simp [ptsU, List.range_succ]
theorem uptoF_getD2 (f : Nat → Int × Int) {k i : Nat} (h : i < k) : (uptoF f k).getD i (0, 0) = f i := by simp [uptoF, h]
theorem uptoF_ptsOf (f : Nat) (t : List Int) : uptoF (fun i => (((f + i : Nat) : Int), t.getD i 0)) t.length = ptsOf f t := rfl
theorem okK_of2 {ps : List (Int × Int)} {n : Nat} (h : Good ps n) : okK ps n = true := by
  have go : ∀ k, k ≤ n → okK ps k = true := fun k => by
    induction k with
    | zero => intro _; rfl
    | succ k ih =>
      intro hk
      rw [okK_step, ih (by omega), (numB_iff _).2 (h.x0 k (by omega)), (numB_iff _).2 (h.y0 k (by omega))]
      have : seenB ps k (px ps k) = false := by
        apply Bool.eq_false_iff.2
        intro ht
        obtain ⟨i, hi, he⟩ := (seenB_iff ps k _).1 ht
        exact h.ne i k (by omega) (by omega) (by omega) he
      rw [this]; rfl
  exact go n (Nat.le_refl _)
theorem okK_nums {ps : List (Int × Int)} {n : Nat} (h : okK ps n = true) : ∀ i, i < n → 0 ≤ py ps i ∧ py ps i ≤ 112 := fun i hi => (Good.of h).y0 i hi
/-- what ManyTake asks is what SharesJoin asks of these points -/
theorem join_ptsOf (a : List Int) (h20 : a.length ≤ 20) : joinB (ptsOf 1 a) = mtakB a := by
  unfold joinB mtakB shB ptsB
  rw [ptsOf_length]
  cases hn : numsB a
  · rw [Bool.and_false]
    have : okK (ptsOf 1 a) a.length = false := by
      apply Bool.eq_false_iff.2
      intro h
      have hN : Nums a := fun i => by
        by_cases hi : i < a.length
        · have := okK_nums h i hi
          rwa [py_ptsOf 1 a i hi] at this
        · rw [List.getD_eq_getElem?_getD, List.getElem?_eq_none (by omega)]; simp
      rw [B_of_nums hN] at hn; cases hn
    rw [this]; simp
  · have hg := okK_of2 (ptsOf_good 1 a (by omega) (nums_of_B hn))
    have hx : ∀ k, k ≤ a.length → xsK (ptsOf 1 a) 112 k = true := by
      intro k hk
      induction k with
      | zero => rfl
      | succ k ih => rw [xsK, ih (by omega), px_ptsOf 1 a k (by omega)]; simp; omega
    rw [hg, hx _ (Nat.le_refl _)]
    unfold inB
    rw [decide_eq_true h20, show decide ((a.length : Int) ≤ 20) = true from decide_eq_true (by omega)]
    by_cases h0 : 0 < a.length
    · rw [decide_eq_true h0, show decide ((1 : Int) ≤ (a.length : Int)) = true from decide_eq_true (by omega)]; rfl
    · rw [decide_eq_false h0, show decide ((1 : Int) ≤ (a.length : Int)) = false from decide_eq_false (by omega)]; rfl
theorem exp_good2 {s top : Int} {d : List (Int × Int)} (hs : 0 ≤ s ∧ s ≤ 112) (h : shB d top = true) : Good ((0, s) :: d) (1 + d.length) := by
  simp only [shB, Bool.and_eq_true] at h
  have hg := (shB_good rfl h.1).1
  have hx := fun i (hi : i < d.length) => xsK_at h.2 hi
  have p0 : px ((0, s) :: d) 0 = 0 := rfl
  have q0 : py ((0, s) :: d) 0 = s := rfl
  have p1 : ∀ i, px ((0, s) :: d) (i + 1) = px d i := fun i => by simp [px]
  have q1 : ∀ i, py ((0, s) :: d) (i + 1) = py d i := fun i => by simp [py]
  refine ⟨fun i hi => ?_, fun i hi => ?_, fun i j hi hj hij => ?_⟩
  · cases i with
    | zero => rw [p0]; omega
    | succ i => rw [p1]; exact hg.x0 i (by omega)
  · cases i with
    | zero => rw [q0]; exact hs
    | succ i => rw [q1]; exact hg.y0 i (by omega)
  · cases i with
    | zero =>
      cases j with
      | zero => exact absurd rfl hij
      | succ j => rw [p0, p1]; have := hx j (by omega); omega
    | succ i =>
      cases j with
      | zero => rw [p0, p1]; have := hx i (by omega); omega
      | succ j => rw [p1, p1]; exact hg.ne i j (by omega) (by omega) (by omega)
end Go.Proofs.Ytbnobkojkfmccaa

/- Chapter 12: ManyExplain of both sides; the program's 'explained', which chapter 4 calls, too. Made by tools/gen12/explain.py. -/
namespace Go.Proofs.Ytbnobkojkfmccaa
open Go.RowKit
set_option maxHeartbeats 2000000 in
theorem i_explained (A : Option Addr) (n c : Nat) (s : Int) (d : List (Int × Int)) (w : World) (h : Rd w w.heap.size 2 A n (cP d)) (hn : n ≤ 7) (hg : Good ((0, s) :: d) (1 + n)) :
    Calls Try.prog 80 #[.int .i64 s, .slice A n c] w fun e w' => ∃ g, e = .returned g ∧ OwIntT w' w.heap.size w'.heap.size g (expL s d) ∧ Below w.heap.size w w' := by
  have hl := Lib.hid h.plen
  have H := Lib.hid h
  have HG := Lib.hid hg
  clear h hg
  have HQL : Hid (((0, s) :: d).length = 1 + n) := Lib.hid (by rw [List.length_cons, hl.out]; omega)
  have HTO : Hid ((thrI ((0, s) :: d) (1 + n)).1 = thrS ((0, s) :: d) (1 + n) (1 + n)) := Lib.hid (by have := through_one (ps := (0, s) :: d) (by rw [HQL.out]; exact HG.out); rwa [HQL.out] at this)
  go_enter Try.func80, Try.ntmps80
  have HLIT := Lib.hid (lit_point w s)
  have HRD : Hid (Rd (w.alloc (.cells #[.int .i64 0, .int .i64 s] 61)) (w.alloc (.cells #[.int .i64 0, .int .i64 s] 61)).heap.size 2 A n (cP d)) := Lib.hid ((H.out.below ((Below.refl _ _).alloc (Nat.le_refl _) _)).more (by simp))
  have hza : w.heap.size ≤ (w.alloc (.cells #[.int .i64 0, .int .i64 s] 61)).heap.size := by simp
  go_wp2_with (at_builtin
               refine wpList_append_rd rfl (.tmp 8) (.tmp 9) _ rfl w.heap.size 61 _ 2 16 Try.underlying50 info_pt rfl (by decide) (.slice (some ⟨w.heap.size, 0, none⟩) 1 1) 1 [.int .i64 0, .int .i64 s] rfl HLIT.out _ A n c (cP d) rfl HRD.out (cP_one d) (by unfold maxLen; omega) (by omega) hza ?_
               intro v5 w5 hown hgr hat
               obtain ⟨A5, c5, hv5, ho5⟩ := Ow.of_own hown
               subst hv5
               have HO5 : Hid (Ow w5 w.heap.size w5.heap.size 61 2 A5 (1 + n) c5 (cP ((0, s) :: d))) := Lib.hid ho5
               have HB5 : Hid (Below w.heap.size w w5) := Lib.hid (below_grown ((Below.refl _ _).alloc (Nat.le_refl _) _) hgr (fun g e => by simp [Value.ownBlock] at e; omega) hza)
               clear hown hgr hat ho5)
  refine (i_through A5 (1 + n) c5 ((0, s) :: d) w5 HO5.out.rd (by omega) HG.out).mono ?_
  rintro e w6 ⟨g6, rfl, ho6, hb6⟩
  rw [HTO.out] at ho6
  obtain ⟨hsm, At, nt, ct, rfl, hot⟩ := ho6
  have HOT := Lib.hid hot.rd
  have hz5 := HB5.out.size
  have HB6 : Hid (Below w.heap.size w w6) := Lib.hid (HB5.out.trans (hb6.mono (by omega)))
  have hnt : nt ≤ n + 1 := by have := thrS_len ((0, s) :: d) (1 + n) _ (Nat.le_refl _); rw [hot.len] at this; omega
  have HPL : Hid ((thrS ((0, s) :: d) (1 + n) (1 + n)).length ≤ n + 1) := Lib.hid (by rw [hot.len]; exact hnt)
  have hz6 := HB6.out.size
  clear hot hb6 hsm HLIT HRD hza HO5 HB5 HTO
  go_wp2_with fail
  refine (i_padded At nt ct (n + 1) _ w6 HOT.out hnt (by omega)).mono ?_
  rintro e w7 ⟨rfl, hop, hb7, hz7⟩
  have HB7 : Hid (Below w.heap.size w w7) := Lib.hid (HB6.out.trans (hb7.mono hz6))
  have HPO : Hid (OwT w7 w.heap.size w7.heap.size (some ⟨w6.heap.size, 1, none⟩) n (cI (expL s d))) := Lib.hid (by
    refine ⟨by rw [cI_length, expL_length, hl.out], ?_⟩
    obtain ⟨g', cs, hA, h1, h2, hb, ht⟩ := hop.lt (by omega)
    injection hA with hA; injection hA with hA; subst hA
    refine .inr ⟨_, 1, cs, rfl, by omega, by omega, hb, ?_⟩
    have hpl : (padL (thrS ((0, s) :: d) (1 + n) (1 + n)) (n + 1)).length = n + 1 := padL_length _ _ HPL.out
    have e1 : (cs.toList.drop 1).take n = ((cs.toList.take ((n + 1) * 1)).drop 1) := by rw [Nat.mul_one, List.drop_take, Nat.add_sub_cancel]
    rw [e1, ht]
    unfold cI
    rw [← List.map_drop]
    congr 1
    refine ext_getD (by rw [List.length_drop, hpl, expL_length, hl.out]; omega) fun j hj => ?_
    rw [List.length_drop, hpl] at hj
    have e2 := expL_get s d j (by rw [hl.out]; omega)
    rw [hl.out] at e2
    have e3 : (thrS ((0, s) :: d) (1 + n) (1 + n)).getD (j + 1) 0 = (padL (thrS ((0, s) :: d) (1 + n) (1 + n)) (n + 1)).getD (j + 1) 0 := (padL_get _ _ _).symm
    rw [e2, e3, List.getD_eq_getElem?_getD, List.getD_eq_getElem?_getD, List.getElem?_drop, Nat.add_comm 1 j])
  clear hop hb7
  by_cases hn0 : n = 0
  · subst hn0
    go_wp2
    go_ret
    exact ⟨_, rfl, ⟨by rw [expL_length, hl.out]; omega, _, _, _, rfl, HPO.out.1, .inl rfl⟩, HB7.out⟩
  · have hne : ¬ n + 1 = 1 := by omega
    go_wp2
    go_ret
    exact ⟨_, rfl, ⟨by rw [expL_length, hl.out]; omega, _, _, _, rfl, HPO.out⟩, HB7.out⟩

set_option maxHeartbeats 2000000 in
theorem X_i_SharesExplain (v : Value) (s : Int) (d : List (Int × Int)) (w : World) (h : RdPointS w w.heap.size v d) (hs : szPointS d ≤ 1048576) :
    Calls Try.prog 42 #[.int .i64 s, v] w fun e w' => ∃ g, e = .returned (.tuple #[g, .bool (R_SharesExplain_1 s d)]) ∧ OwIntT w' w.heap.size w'.heap.size g (R_SharesExplain_0 s d) ∧ Below w.heap.size w w' := by
  obtain ⟨A, n, c, rfl, hm, r⟩ := h
  have hn : n ≤ 1048576 := by have := r.plen; unfold szPointS at hs; omega
  have hl := Lib.hid r.plen
  have H := Lib.hid r
  clear r hs hm
  have no : expB s d = false → Hid (R_SharesExplain_1 s d = false ∧ R_SharesExplain_0 s d = []) := fun h => Lib.hid ⟨h, by unfold R_SharesExplain_0; rw [h]; rfl⟩
  go_enter Try.func42, Try.ntmps42
  go_wp2_with fail
  refine (i_NumOk _ _).mono ?_
  rintro e w1 ⟨rfl, rfl⟩
  cases hs : numB s
  · have HF := no (by simp [expB, hs])
    clear no
    go_wp2
    go_ret2
    refine ⟨_, ret_vb HF.out.1.symm, ?_, Below.refl _ _⟩
    rw [HF.out.2]; exact OwIntT.nil_ _ _ _
  have HS := Lib.hid hs
  clear hs
  by_cases h6 : n ≤ 6
  · have t6 : decide ((6 : Int) < (n : Int)) = false := decide_eq_false (by omega)
    go_wp2_with fail
    refine (i_sharesOk _ _ _ _ _ _ H.out hn).mono ?_
    rintro e w1 ⟨rfl, hb⟩
    have HB := Lib.hid hb
    have hz := hb.size
    clear hb
    cases hp : shB d 7
    · have HF := no (by simp [expB, hp])
      clear no
      go_wp2
      go_ret2
      refine ⟨_, ret_vb HF.out.1.symm, ?_, HB.out⟩
      rw [HF.out.2]; exact OwIntT.nil_ _ _ _
    · have HX : Hid (expB s d = true) := Lib.hid (by unfold expB; rw [HS.out, hp, hl.out, decide_eq_true h6]; rfl)
      have HF1 : Hid (R_SharesExplain_1 s d = true) := Lib.hid HX.out
      have HF2 : Hid (R_SharesExplain_0 s d = expL s d) := Lib.hid (by unfold R_SharesExplain_0; rw [if_pos HX.out])
      have HG := exp_good HS.out hp (by rw [hl.out]; exact h6)
      rw [hl.out] at HG
      clear no hp
      go_wp2_with fail
      refine (i_explained A n c s d w1 ((H.out.below HB.out).more hz) (by omega) HG).mono ?_
      rintro e w2 ⟨g, rfl, ho, hb⟩
      have HO := Lib.hid (ho.widen hz (Nat.le_refl _))
      have HB2 := Lib.hid (HB.out.trans (hb.mono hz))
      clear ho hb HG
      go_wp2
      go_ret2
      refine ⟨_, ret_vb HF1.out.symm, ?_, HB2.out⟩
      rw [HF2.out]
      exact HO.out
  · have t6 : decide ((6 : Int) < (n : Int)) = true := decide_eq_true (by omega)
    have HF := no (by unfold expB; rw [decide_eq_false (by rw [hl.out]; exact h6)]; simp)
    clear no
    go_wp2
    go_ret2
    refine ⟨_, ret_vb HF.out.1.symm, ?_, Below.refl _ _⟩
    rw [HF.out.2]; exact OwIntT.nil_ _ _ _
end Go.Proofs.Ytbnobkojkfmccaa

/- An argument of type []byte, opened. -/
namespace Go.Proofs.Ytbnobkojkfmccaa
open Go.RowKit
set_option maxRecDepth 100000

section
open Go.ChangeShapes Go.WideShapes Go.ChangeAt Go.RowKit
/-- an argument of type []byte: a list of bytes that reads -/
theorem open_byteS {H : Type} {enc : TypeId × Value → H} {P : Program} {w : World} {b0 : Nat} {t e : TypeId} {r : Reach} {v : Value} {d : DataW H} {ps : List MemPlace} (ht : P.underlying t = some (.slice e)) (he : P.underlying e = some (.int .u8)) (hc : P.cellsOf e = 1)
    (hv : Value.okWide P w r b0 t v) (h : DataW.Trod enc P w 0 (fun _ => true) true t v d ps) :
    ∃ A n c zs, v = .slice A n c ∧ n ≤ 9223372036854775807 ∧ n ≤ c ∧ Rd w w.heap.size 1 A n (cU zs) ∧ Byt zs := by
  obtain ⟨A, n, c, rfl⟩ : ∃ A n c, v = .slice A n c := by
    cases v <;> simp [Value.okWide, ht, Cell.okWide, Cell.ok] at hv
    exact ⟨_, _, _, rfl⟩
  obtain ⟨fuel, hf⟩ := h
  rcases open_ints ht he hc hf with ⟨hn, _⟩ | ⟨a, len, cap, zs, hs, _, hlc, hm, hlen, _, hcell, hwz⟩
  · simp [Value.cells] at hn
    obtain ⟨rfl, rfl, rfl⟩ := hn
    exact ⟨_, _, _, [], rfl, by omega, Nat.le_refl _, ⟨by simp [cU], fun h => by omega⟩, fun j => by simp⟩
  · simp [Value.cells] at hs
    obtain ⟨rfl, rfl, rfl⟩ := hs
    simp only [if_true] at hlen
    unfold maxLen at hm
    have hby : Byt zs := fun j => by
      by_cases hj : j < zs.length
      · have hw := hwz zs[j] (List.getElem_mem hj)
        simp only [Lit.wf, IntKind.min, IntKind.max, IntKind.signed, IntKind.bits, Bool.and_eq_true] at hw
        simp [hj]
        simp at hw
        omega
      · simp [List.getElem?_eq_none (show zs.length ≤ j by omega)]
    refine ⟨_, _, _, zs.take n, rfl, by omega, by omega, ⟨by rw [cU_length, List.length_take]; omega, fun hn => ⟨a, rfl, ?_, fun j u hu => ?_⟩⟩, hby.take _⟩
    · have := hcell 0 (by omega)
      exact World.block_lt_of_cell? (a := a.add 0) _ this
    · have hj : j < n := by
        have := (List.getElem?_eq_some_iff.1 hu).1
        rw [cU_length, List.length_take] at this; omega
      simp only [cU, List.map_take, List.getElem?_take, if_pos hj, List.getElem?_map, List.getElem?_eq_getElem (show j < zs.length by omega), Option.map_some, Option.some.injEq] at hu
      rw [← hu, hcell j (by omega)]
      simp [show j < zs.length by omega]
end
end Go.Proofs.Ytbnobkojkfmccaa

/- P26: the law's walk. -/
namespace Go.Proofs.Ytbnobkojkfmccaa
open Go.RowKit
set_option maxRecDepth 100000

set_option maxHeartbeats 4000000 in
theorem P26_walk (A : Option Addr) (n c : Nat) (bs : List Int) (w : World) (h : Rd w w.heap.size 1 A n (cU bs)) (hb : Byt bs) (hc : n ≤ c) (hm : n ≤ 9223372036854775807) :
    Calls Try.prog 11 #[.slice A n c] w fun e w' => e = .returned (.bool true) ∧ Below w.heap.size w w' := by
  by_cases hn : n ≤ 1048576
  · have h3 : ¬ ((1048576 : Int) < (n : Int)) := by omega
    have H := Lib.hid h
    clear h
    go_enter Try.func11, Try.ntmps11
    go_wp2_with fail
    refine (d_DrawSharesExplain _ _ _ _ _ H.out hb hn hc).mono ?_
    rintro e w1 ⟨s, v, d, rfl, ho, h8, hb1⟩
    have HO := Lib.hid ho
    have B1 := Lib.hid hb1
    have hsz : szPointS d ≤ 1048576 := by unfold szPointS; omega
    have z1 := hb1.size
    clear ho hb1
    go_wp2_with fail
    refine (X_i_SharesExplain v s d w1 HO.out.rd hsz).mono ?_
    rintro e w2 ⟨g, rfl, hg, hb2⟩
    have HG := Lib.hid hg
    have B2 := Lib.hid (B1.out.trans (hb2.mono z1))
    have HO2 := Lib.hid (HO.out.below hb2 (Nat.le_refl _))
    have z2 := hb2.size
    clear hg hb2 HO B1
    go_wp2_with fail
    refine (X_s_SharesExplain v s d w2 (HO2.out.rd.more z2) hsz).mono ?_
    rintro e w3 ⟨g', rfl, hg', hb3⟩
    have HG' := Lib.hid hg'
    have B3 := Lib.hid (B2.out.trans (hb3.mono (Nat.le_trans z1 z2)))
    have HG3 := Lib.hid (HG.out.below hb3 (Nat.le_refl _))
    have HO3 := Lib.hid (HO2.out.below hb3 z2)
    have z3 := hb3.size
    clear hg' hb3 HG HO2 B2
    obtain ⟨hs0, A2, n2, c2, rfl, r2⟩ := HG3.out
    obtain ⟨hs1, A3, n3, c3, rfl, r3⟩ := HG'.out
    have e2 := r2.len
    have e3 := r3.len
    obtain rfl : n3 = n2 := by omega
    have HR2 := Lib.hid (r2.rd.more (Nat.le_trans (Nat.le_refl _) z3))
    have HR3 := Lib.hid r3.rd
    have hn2 : n3 ≤ 1048576 := by omega
    clear r2 r3
    go_wp2_with fail
    refine (u_uvInts _ _ _ _ _ _ _ HR2.out HR3.out hn2).mono ?_
    rintro e w4 ⟨rfl, hb4⟩
    have B4 := Lib.hid (B3.out.trans (hb4.mono (Nat.le_trans z1 (Nat.le_trans z2 z3))))
    have HO4 := Lib.hid (HO3.out.below hb4 (Nat.le_trans z2 z3))
    have HR4 := Lib.hid (HR2.out.below hb4)
    have z4 := hb4.size
    clear hb4 HO3 HG3 HG' HR2 HR3 B3
    cases hR : R_SharesExplain_1 s d
    · go_wp2
      go_ret
      exact ⟨rfl, B4.out⟩
    · have HX0 : Hid (R_SharesExplain_0 s d = expL s d) := Lib.hid (by unfold R_SharesExplain_0; rw [if_pos (show expB s d = true from hR)])
      have HAT := Lib.hid fun i hi => expl_at hR i hi
      obtain ⟨hso, h6⟩ := expl_nums hR
      rw [HX0.out] at e2 HR4
      rw [expL_length] at e2
      have HSO := Lib.hid hso
      have HF2 : Hid (R_SharesOf_0 s 7 (expL s d) = uptoF (shF (s :: expL s d)) 7) := Lib.hid (by unfold R_SharesOf_0; rw [if_pos (show ofB s 7 (expL s d) = true from hso)]; rfl)
      clear hR hso e3
      go_wp2_with fail
      refine (X_i_SharesOf _ s 7 (expL s d) w4 ⟨_, _, _, rfl, by omega, HR4.out.more z4⟩ (by unfold szIntS; rw [expL_length]; omega)).mono ?_
      rintro e w5 ⟨g5, rfl, ho5, hb5⟩
      rw [HSO.out]
      rw [HF2.out] at ho5
      obtain ⟨_, A5, n5, c5, rfl, r5⟩ := ho5
      have B5 := Lib.hid (B4.out.trans (hb5.mono (Nat.le_trans z1 (Nat.le_trans z2 (Nat.le_trans z3 z4)))))
      have HO5 := Lib.hid (HO4.out.below hb5 (Nat.le_trans z2 (Nat.le_trans z3 z4)))
      have HA5 := Lib.hid r5.rd
      have h7 : n5 = 7 := by have := r5.plen; rw [uptoF_length] at this; omega
      subst h7
      clear hb5 HO4 r5 B4 HR4
      obtain ⟨_, Ad, nd, cd, rfl, rd⟩ := HO5.out
      have hnd := rd.plen
      have HD := Lib.hid rd.rd
      clear rd HO5
      obtain rfl : n3 = nd := by omega
      go_wp2
      go_loopw [12] (fun i wr => ∃ k m : Nat, k ≤ n3 ∧ i = .int .i64 k ∧ wr = w5.drewN m) (fun i _ => n3 - (intOf i).toNat)
      case atStart => exact ⟨0, 0, Nat.zero_le _, rfl, rfl⟩
      case round =>
        obtain ⟨k, m, hk, rfl, rfl⟩ := hrel
        by_cases hlt : k < n3
        · obtain ⟨a, x, y, rfl, hab, hx, hy, HP⟩ := HD.out.ptAt hlt
          have HXY := pxy HP.out
          have hat := HAT.out k (by omega)
          rw [HXY.1, HXY.2] at hat
          obtain ⟨⟨x1, x7⟩, hv⟩ := hat
          obtain ⟨j, hj⟩ := Int.eq_ofNat_of_zero_le (show 0 ≤ x - 1 by omega)
          obtain ⟨a5, x', y', rfl, hab5, hx5, hy5, HP5⟩ := HA5.out.ptAt (show j < 7 by omega)
          have hp5 := HP5.out
          rw [show (uptoF (shF (s :: expL s d)) 7).getD j (0, 0) = shF (s :: expL s d) j by simp [uptoF, show j < 7 by omega]] at hp5
          have hj1 : (j : Int) + 1 = x := by omega
          simp only [shF, hj1, hv] at hp5
          obtain ⟨rfl, rfl⟩ : x' = x ∧ y' = y := by injection hp5 with p1 p2; exact ⟨p1.symm, p2.symm⟩
          have i0 : (0 : Int) ≤ (k : Int) := by omega
          have i1 : (k : Int) < (n3 : Int) := by omega
          have j0 : (0 : Int) ≤ (j : Int) := by omega
          have j7 : (j : Int) < 7 := by omega
          have iw : IntKind.i64.wrap (x' - 1) = x' - 1 := IntWalk.i64_in _ (by omega)
          have it : (x' - 1).toNat = j := by omega
          have k0 : 0 ≤ x' - 1 := by omega
          have k7 : x' - 1 < 7 := by omega
          clear HP HXY HP5 hp5
          go_wp2
          go_quiet (fail)
          go_wp2
          go_roundw
          case rel => exact ⟨k + 1, _, by omega, by go_num, rfl⟩
          case measure => simp [intOf] <;> omega
        · go_wp2
          go_ret
          exact ⟨rfl, below_drewN B5.out _⟩
  · have h3 : (1048576 : Int) < (n : Int) := by omega
    go_enter Try.func11, Try.ntmps11
    go_wp2
    go_ret
    exact ⟨rfl, Below.refl _ _⟩

end Go.Proofs.Ytbnobkojkfmccaa
