/- Chapter 17: the iterator and the list over CubeProve's closure (made from XWalk5g, XWalk5h by tools/gen5.py) -/
import Derived.Test.YtaiilopfdjbceaaWalk5h
namespace Go.Proofs.Ytaiilopfdjbceaa
open Go.RowKit Go.Shelf
set_option maxRecDepth 100000
attribute [local go_sem] Oper.semAt_some

set_option maxHeartbeats 2000000 in
theorem i_it_prov (b1 b2 l Bn Bs n₀ cnt m : Nat) (hm : 1 ≤ m) (f : Nat → Int × Int) (w0 : World)
    (hS : ∀ W k, Below n₀ w0 W → k < cnt → Calls Try.prog 58 #[.int .i64 k, .pointer (some ⟨b1, 0, none⟩), .pointer (some ⟨b2, 0, none⟩)] W fun e W' => e = .returned (.agg #[.int .i64 (f k).1, .int .i64 (f k).2]) ∧ Below W.heap.size W W')
    (hcnt : cnt ≤ 1048576) (J Jx : List (Int × Int) → World → Prop) (W : World) (hJ : AbidesFrom W.heap.size J)
    (hY : ∀ pre x W1, J pre W1 → pre.length < cnt → YieldAt Fence.wide (m - 1) Try.prog l (encP x) W1 fun e W' =>
      (e = .returned (.bool true) ∧ J (pre ++ [x]) W' ∧ KpS n₀ Bs (.func (.func 58) #[] #[.pointer (some ⟨b1, 0, none⟩), .pointer (some ⟨b2, 0, none⟩)]) W1 W') ∨ (e = .returned (.bool false) ∧ Jx (pre ++ [x]) W'))
    (hBn : W.cell? ⟨Bn, 0, none⟩ = some (.int .i64 cnt)) (hBs : Boxed W Bs 71 (.func (.func 58) #[] #[.pointer (some ⟨b1, 0, none⟩), .pointer (some ⟨b2, 0, none⟩)])) (hn₀ : n₀ ≤ W.heap.size) (hbel : Below n₀ w0 W) (h0 : J [] W) :
    CallsIn Fence.wide m Try.prog 109 #[.func (.yield l) #[] #[], .pointer (some ⟨Bn, 0, none⟩), .pointer (some ⟨Bs, 0, none⟩)] W fun e W' => (∃ v, e = .returned v) ∧
      ((∃ ys, ys = uptoF f cnt ∧ J ys W') ∨ (∃ pre, True ∧ Jx pre W')) := by
  have hm1 : 1 ≤ m := hm
  refine callsIn_of_wp Try.func109 rfl trivial ?_ rfl
  simp only [Try.ntmps109, List.size_toArray, List.length_cons, List.length_nil, Nat.reduceAdd, Nat.reduceSub, Array.replicate_succ, Array.replicate_zero, List.push_toArray, List.append_toArray, List.nil_append, List.cons_append]
  gi_wp2
  gi_loopw [6] (fun i wr => ∃ k : Nat, k ≤ cnt ∧ i = .int .i64 k ∧ J (uptoF f k) wr ∧ Hid (Below n₀ w0 wr) ∧ Hid (n₀ ≤ wr.heap.size) ∧ Hid (Boxed wr Bs 71 (.func (.func 58) #[] #[.pointer (some ⟨b1, 0, none⟩), .pointer (some ⟨b2, 0, none⟩)])))
    (fun i _ => cnt - (intOf i).toNat)
  case atStart => exact ⟨0, Nat.zero_le _, rfl, h0, Lib.hid hbel, Lib.hid hn₀, Lib.hid hBs⟩
  case round =>
    obtain ⟨k, hk, rfl, hJs, HBL, HZ, HBS⟩ := hrel
    by_cases hlt : k < cnt
    · have hcs := HBS.out.cell
      have i0 : (0 : Int) ≤ (k : Int) := by omega
      have i1 : (k : Int) < (cnt : Int) := by omega
      gi_wp2_with (refine ⟨trivial, ?_⟩
                   gi_at_call 58
                   refine (callsIn_wide.2 (hS _ k HBL.out hlt)).mono ?_
                   rintro e W1 ⟨rfl, hb1⟩
                   have hJ1 := hJ _ _ _ none hJs (grown_of_below hb1) (fun r e => by cases e)
                   have HBS1 : Hid (Boxed W1 Bs 71 (.func (.func 58) #[] #[.pointer (some ⟨b1, 0, none⟩), .pointer (some ⟨b2, 0, none⟩)])) := Lib.hid (HBS.out.kept (grown_of_below hb1) (by simp))
                   have HBL1 : Hid (Below n₀ w0 W1) := Lib.hid (HBL.out.trans (hb1.mono HZ.out))
                   have HZ1 : Hid (n₀ ≤ W1.heap.size) := Lib.hid (Nat.le_trans HZ.out hb1.size)
                   obtain ⟨fn, tmps, assign, body, hy, hR⟩ := hY _ (f k) W1 hJ1 (by rw [uptoF_length]; exact hlt)
                   simp only [encP] at hy
                   clear hb1 HBL HZ HBS hJs hcs)
      refine hR.mono ?_
      rintro e W3 (⟨rfl, hJ3, hk3⟩ | ⟨rfl, hJx3⟩)
      · have HK3 := Lib.hid hk3
        clear hk3
        gi_wp2
        go_roundw
        case rel => exact ⟨k + 1, by omega, by go_num, by rw [uptoF_succ]; exact hJ3, Lib.hid (HBL1.out.trans HK3.out.1), Lib.hid (Nat.le_trans HZ1.out HK3.out.1.size), Lib.hid (HK3.out.2 HBS1.out)⟩
        case measure => simp [intOf] <;> omega
      · gi_wp2
        refine bodyPost_ret (results_none rfl _ _ _) rfl ?_
        exact ⟨⟨_, rfl⟩, .inr ⟨_, trivial, hJx3⟩⟩
    · obtain rfl : k = cnt := by omega
      gi_wp2
      go_end0
      exact ⟨⟨_, rfl⟩, .inl ⟨_, rfl, hJs⟩⟩
theorem stops_prov (b1 b2 Bn Bs n₀ cnt m : Nat) (hm : 1 ≤ m) (f : Nat → Int × Int) (w0 w : World)
    (hS : ∀ W k, Below n₀ w0 W → k < cnt → Calls Try.prog 58 #[.int .i64 k, .pointer (some ⟨b1, 0, none⟩), .pointer (some ⟨b2, 0, none⟩)] W fun e W' => e = .returned (.agg #[.int .i64 (f k).1, .int .i64 (f k).2]) ∧ Below W.heap.size W W')
    (hcnt : cnt ≤ 1048576) (hlt : Bn < w.heap.size) (hBn : w.cell? ⟨Bn, 0, none⟩ = some (.int .i64 cnt)) (hBs : Boxed w Bs 71 (.func (.func 58) #[] #[.pointer (some ⟨b1, 0, none⟩), .pointer (some ⟨b2, 0, none⟩)])) (hn₀ : n₀ ≤ w.heap.size) (hbel : Below n₀ w0 w) :
    SeqStopsK Fence.wide m Try.prog 109 #[.pointer (some ⟨Bn, 0, none⟩), .pointer (some ⟨Bs, 0, none⟩)] encP (KpS n₀ Bs (.func (.func 58) #[] #[.pointer (some ⟨b1, 0, none⟩), .pointer (some ⟨b2, 0, none⟩)])) (fun ys => ys = uptoF f cnt) (fun _ => True) cnt w := fun l J Jx W hW hJ _ hY h0 =>
  i_it_prov b1 b2 l Bn Bs n₀ cnt m hm f w0 hS hcnt J Jx W hJ hY ((hW.cell (p := ⟨Bn, 0, none⟩) hlt).trans hBn) ((hW.block Bs hBs.lt).trans hBs) (Nat.le_trans hn₀ hW.size) (hbel.trans (hW.mono hn₀)) h0

set_option maxHeartbeats 4000000 in
theorem i_listed_prov (b1 b2 cnt : Nat) (hcnt : cnt ≤ 1048576) (f : Nat → Int × Int) (w : World)
    (hS : ∀ W k, Below w.heap.size w W → k < cnt → Calls Try.prog 58 #[.int .i64 k, .pointer (some ⟨b1, 0, none⟩), .pointer (some ⟨b2, 0, none⟩)] W fun e W' => e = .returned (.agg #[.int .i64 (f k).1, .int .i64 (f k).2]) ∧ Below W.heap.size W W') :
    Calls Try.prog 57 #[.int .i64 cnt, .func (.func 58) #[] #[.pointer (some ⟨b1, 0, none⟩), .pointer (some ⟨b2, 0, none⟩)]] w fun e w' => ∃ g, e = .returned g ∧ OwPointS w' w.heap.size w'.heap.size g (uptoF f cnt) ∧ Below w.heap.size w w' := by
  refine (callsIn_wide (n := 9)).1 ?_
  obtain ⟨i0, hi, hz0, hz1, hz2⟩ := info_parts info_pt
  have hmk := fun W => run_make0 (P := Try.prog) Try.underlying29 info_pt cnt (by omega) (by omega) W
  have hcap : (madeCells (Value.agg #[.int .i64 0, .int .i64 0]).cells (cnt * 2)).size = cnt * 2 := madeCells_size _ _
  obtain ⟨cs, hcs⟩ : ∃ cs, madeCells (Value.agg #[.int .i64 0, .int .i64 0]).cells (cnt * 2) = cs := ⟨_, rfl⟩
  rw [hcs] at hmk hcap
  have HCAP := Lib.hid hcap
  clear hcs hcap
  have c0 : (0 : Int) ≤ (cnt : Int) := by omega
  refine callsIn_of_wp_marks Try.func57 rfl trivial ?_ rfl
  simp only [Try.ntmps57, List.size_toArray, List.length_cons, List.length_nil, Nat.reduceAdd, Nat.reduceSub, Array.replicate_succ, Array.replicate_zero, List.push_toArray, List.append_toArray, List.nil_append, List.cons_append]
  gi_wp2_with (refine ⟨trivial, ?_⟩
               gi_at_call 92
               refine (callsIn_wide.2 (i_shares _ _ _ _ _)).mono ?_
               rintro e w' ⟨rfl, rfl⟩)
  have bL := ((Boxed.new (w.alloc (.cells cs 44)) 29 (.slice (some ⟨w.heap.size, 0, none⟩) 0 cnt)).alloc (.cells #[.int .i64 cnt] 3)).alloc (.cells #[(.func (.func 58) #[] #[.pointer (some ⟨b1, 0, none⟩), .pointer (some ⟨b2, 0, none⟩)])] 71)
  have bN := (Boxed.new ((w.alloc (.cells cs 44)).alloc (.cells #[.slice (some ⟨w.heap.size, 0, none⟩) 0 cnt] 29)) 3 (.int .i64 cnt)).alloc (.cells #[(.func (.func 58) #[] #[.pointer (some ⟨b1, 0, none⟩), .pointer (some ⟨b2, 0, none⟩)])] 71)
  have bS := Boxed.new (((w.alloc (.cells cs 44)).alloc (.cells #[.slice (some ⟨w.heap.size, 0, none⟩) 0 cnt] 29)).alloc (.cells #[.int .i64 cnt] 3)) 71 (.func (.func 58) #[] #[.pointer (some ⟨b1, 0, none⟩), .pointer (some ⟨b2, 0, none⟩)])
  have hrow := (((own_make0 w cs 44 2 cnt HCAP.out (by unfold maxLen; omega)).alloc (.cells #[.slice (some ⟨w.heap.size, 0, none⟩) 0 cnt] 29)).alloc (.cells #[.int .i64 cnt] 3)).alloc (.cells #[(.func (.func 58) #[] #[.pointer (some ⟨b1, 0, none⟩), .pointer (some ⟨b2, 0, none⟩)])] 71)
  simp only [World.size_alloc] at bL bN bS
  have hB0 := ((((Below.refl w.heap.size w).alloc (Nat.le_refl _) (.cells cs 44)).alloc (by simp) (.cells #[.slice (some ⟨w.heap.size, 0, none⟩) 0 cnt] 29)).alloc (by simp; omega) (.cells #[.int .i64 cnt] 3)).alloc (by simp; omega) (.cells #[(.func (.func 58) #[] #[.pointer (some ⟨b1, 0, none⟩), .pointer (some ⟨b2, 0, none⟩)])] 71)
  have hsz : ((((w.alloc (.cells cs 44)).alloc (.cells #[.slice (some ⟨w.heap.size, 0, none⟩) 0 cnt] 29)).alloc (.cells #[.int .i64 cnt] 3)).alloc (.cells #[(.func (.func 58) #[] #[.pointer (some ⟨b1, 0, none⟩), .pointer (some ⟨b2, 0, none⟩)])] 71)).heap.size = w.heap.size + 4 := by simp
  obtain ⟨W0, hW0⟩ : ∃ W0, (((w.alloc (.cells cs 44)).alloc (.cells #[.slice (some ⟨w.heap.size, 0, none⟩) 0 cnt] 29)).alloc (.cells #[.int .i64 cnt] 3)).alloc (.cells #[(.func (.func 58) #[] #[.pointer (some ⟨b1, 0, none⟩), .pointer (some ⟨b2, 0, none⟩)])] 71) = W0 := ⟨_, rfl⟩
  rw [hW0] at bL bN bS hrow hB0 hsz ⊢
  clear hW0 hmk
  refine wpIn_rangeFunc_ownH rfl (by decide) (gf := 109) (lb := #[.pointer (some ⟨w.heap.size + 1 + 1, 0, none⟩), .pointer (some ⟨w.heap.size + 1 + 1 + 1, 0, none⟩)]) rfl trivial (enters_of Try.func109 (by kernel_rfl) rfl)
    (stops_prov b1 b2 (w.heap.size + 1 + 1) (w.heap.size + 1 + 1 + 1) w.heap.size cnt (9 - 1) (by decide) f w W0 hS hcnt (by omega) bN.cell bS (by omega) hB0) KpS_t (KpS_b (by omega)) (Below.refl _ _) (fun _ => rfl)
    (fun pre W => ((∃ v, Boxed W (w.heap.size + 1) 29 v ∧ W.ownsRow w.heap.size 44 2 v pre.length (cP pre) ∧ True) ∧ Below w.heap.size w W))
    (fun _ _ _ => False)
    (OwnFrom.and (Own.from (holdsRow_own w.heap.size (w.heap.size + 1) 29 44 2 (fun (pre : List (Int × Int)) => pre.length) (fun pre => cP pre) (fun _ _ => True)) _) (ownFrom_below (Nat.le_refl _) (by omega)))
    (fun _ _ _ _ _ hs _ _ => hs)
    ⟨⟨_, bL, hrow, trivial⟩, hB0⟩
    (fun x a' W => ∃ Bx, w.heap.size ≤ Bx ∧ W.heap[Bx]? = some (.cells #[.int .i64 x.1, .int .i64 x.2] 44 (0, 0)) ∧ a' = { tmps := #[.int .i64 cnt, (.func (.func 58) #[] #[.pointer (some ⟨b1, 0, none⟩), .pointer (some ⟨b2, 0, none⟩)]), undef, undef, .slice none 0 0, .pointer (some ⟨w.heap.size + 1, 0, none⟩), .pointer (some ⟨Bx, 0, none⟩), .int .i64 cnt, .slice (some ⟨w.heap.size, 0, none⟩) 0 cnt, .int .i64 cnt, (.func (.func 58) #[] #[.pointer (some ⟨b1, 0, none⟩), .pointer (some ⟨b2, 0, none⟩)]), .func (.func 109) #[] #[.pointer (some ⟨w.heap.size + 1 + 1, 0, none⟩), .pointer (some ⟨w.heap.size + 1 + 1 + 1, 0, none⟩)], .agg #[.int .i64 x.1, .int .i64 x.2], undef, undef, undef, undef, undef], defers := [] })
    (fun x a' _ X Y row hs hg hr => by
      obtain ⟨Bx, h1, h2, h3⟩ := hs
      refine ⟨Bx, h1, (hg.block Bx (Array.getElem?_eq_some_iff.1 h2).1 (fun e => ?_)).trans h2, h3⟩
      obtain ⟨_, o, ho, hc⟩ := hr Bx e.symm
      rw [h2] at ho; cases ho; cases hc)
    ?assign ?body ?done ?stop
  case assign =>
    rintro l pre x W K ⟨⟨v, hv, hr, _⟩, hB⟩ hK
    simp only [encP]
    gi_wp2
    exact hK _ _ ((KeepsOthers.alloc _ _).from _) ⟨(Below.refl _ W).alloc hB.size _, fun h => h.alloc _⟩ ⟨⟨v, hv.alloc _, hr.alloc _, trivial⟩, hB.alloc hB.size _⟩ ⟨W.heap.size, hB.size, heap_alloc_new _ _, rfl⟩
  case body =>
    rintro l pre x a' W hl ⟨r, hr⟩ ⟨⟨v, hv, hrow, _⟩, hB⟩ ⟨Bx, hBx, bX, rfl⟩ hlt
    have cL := hv.cell
    have cX0 : W.cell? ⟨Bx, 0, none⟩ = some (.int .i64 x.1) := by rw [cell_of_row W Bx 0 _ _ _ bX]; rfl
    have cX1 : W.cell? ⟨Bx, 1, none⟩ = some (.int .i64 x.2) := by rw [cell_of_row W Bx 1 _ _ _ bX]; rfl
    gi_wp2_with (gi_at_builtin
                 refine wpListIn_append_own _ rfl _ _ 29 rfl w.heap.size 44 i0 _ 2 16 Try.underlying29 hi hz0 hz1 hz2 rfl (by decide) _ _ _ rfl (hrow.alloc _) ⟨W.heap.size, 0, none⟩ 1 1 [.int .i64 x.1, .int .i64 x.2] rfl rfl (cell_two_new _ _ _ _) (by simp [Value.oneCell']) (by unfold maxLen; omega) (by omega) (by have := hB.size; simp; omega) ?_
                 intro v' w1 hown' hgrow _
                 obtain ⟨g', cap', rfl⟩ := ownsRow_succ hown'
                 obtain ⟨hv1, hv2, hr2, hk2, hb2⟩ := hv.appended (by decide) hrow hB.size (by omega) hown' hgrow
                 have hc1 := hv1.cell
                 have hf1 := hv1.frozen
                 have hbs : Boxed W (w.heap.size + 1 + 1 + 1) 71 (.func (.func 58) #[] #[.pointer (some ⟨b1, 0, none⟩), .pointer (some ⟨b2, 0, none⟩)]) → Boxed (w1.setCell ⟨w.heap.size + 1, 0, none⟩ (.slice (some ⟨g', 0, none⟩) (pre.length + 1) cap')) (w.heap.size + 1 + 1 + 1) 71 (.func (.func 58) #[] #[.pointer (some ⟨b1, 0, none⟩), .pointer (some ⟨b2, 0, none⟩)]) := fun h =>
                   ((h.alloc _).kept hgrow (h.not_row (by decide) hrow)).other (by omega) _)
    exact ⟨hk2.from _, ⟨hb2, hbs⟩, ⟨⟨_, hv2, by rw [cP_append, List.length_append]; exact hr2, trivial⟩, hB.trans hb2⟩⟩
  case done =>
    rintro D ys W hD rfl ⟨⟨v, hv, hrow, _⟩, hB⟩ hK
    have cL := hv.cell
    gi_wp2
    refine ⟨by simp, .inl ⟨_, _, rfl, run_takeDeferred hK, ?_⟩⟩
    refine ⟨_, results_tmp rfl _ _ _, v, rfl, ?_, hB.trans (belowK_b (w := w) (Nat.le_refl _) W D _ _ (by omega) hK rfl rfl)⟩
    exact done_pts (ownsRow_putObj hrow _ hK rfl) (by rw [uptoF_length]; exact hcnt)
  case stop =>
    rintro D c pre W _ _ h _
    exact h.elim
end Go.Proofs.Ytaiilopfdjbceaa
