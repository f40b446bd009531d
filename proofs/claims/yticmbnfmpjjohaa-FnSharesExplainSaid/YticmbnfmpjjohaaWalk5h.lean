/- Chapter 4: the list of what an iterator over shares gives, over SharesScale's closure. -/
import Derived.Test.YticmbnfmpjjohaaWalk5g
namespace Go.Proofs.Yticmbnfmpjjohaa
open Go.RowKit Go.Shelf
set_option maxRecDepth 100000
attribute [local go_sem] Oper.semAt_some

theorem run_make0 {P : Program} {t e : TypeId} {z : Value} {bytes size : Nat} (ht : P.underlying t = some (.slice e)) (hi : (P.info? e).map (fun i => (i.zero, i.size, i.bytes)) = some (some z, size, bytes))
    (n : Nat) (hb : bytes * n ≤ 281474976710656) (hn : n ≤ 9223372036854775807) (w : World) :
    (Instr.makeSlice t (.int .i64 0) (.int .i64 (n : Int))).run P w = .ok (.slice (some ⟨w.heap.size, 0, none⟩) 0 n) (w.alloc (.cells (madeCells z.cells (n * size)) e)) := by
  obtain ⟨i, hi, hz0, hz1, hz2⟩ := info_parts hi
  have hb' : (i.bytes : Int) * (n : Int) ≤ 281474976710656 := by
    have h : ((i.bytes * n : Nat) : Int) ≤ 281474976710656 := by rw [hz2]; omega
    rwa [Int.natCast_mul] at h
  have hr := run_make (P := P) w t e i z ht hi hz0 .i64 .i64 0 n (by omega) (by omega) hb' (by omega)
  simp only [Int.toNat_natCast, hz1] at hr
  exact hr
theorem own_make0 (w : World) (cs : Array Value) (e size n : Nat) (hs : cs.size = n * size) (hn : n ≤ maxLen) : (w.alloc (.cells cs e)).ownsRow w.heap.size e size (.slice (some ⟨w.heap.size, 0, none⟩) 0 n) 0 [] :=
  ⟨by simp, .inr ⟨w.heap.size, n, cs, rfl, Nat.le_refl _, heap_alloc_new _ _, Nat.zero_le _, hn, hs, by simp⟩⟩
theorem cell_two_new (w : World) (x y : Value) (t : TypeId) : ∀ j u, [x, y][j]? = some u → (w.alloc (.cells #[x, y] t)).cell? ((⟨w.heap.size, 0, none⟩ : Addr).add j) = some u := by
  intro j u hj
  rw [addr_add, Nat.zero_add, World.cell?_alloc_new]
  simpa using hj
theorem madeCells_size (z : Array Value) (n : Nat) : (madeCells z n).size = n := by simp [madeCells]

theorem stops_scl (b1 b2 Bn Bs n₀ cnt m : Nat) (hm : 1 ≤ m) (f : Nat → Int × Int) (w0 w : World)
    (hS : ∀ W k, Below n₀ w0 W → k < cnt → Calls Try.prog 91 #[.int .i64 k, .pointer (some ⟨b1, 0, none⟩), .pointer (some ⟨b2, 0, none⟩)] W fun e W' => e = .returned (.agg #[.int .i64 (f k).1, .int .i64 (f k).2]) ∧ Below W.heap.size W W')
    (hcnt : cnt ≤ 1048576) (hlt : Bn < w.heap.size) (hBn : w.cell? ⟨Bn, 0, none⟩ = some (.int .i64 cnt)) (hBs : Boxed w Bs 98 (.func (.func 91) #[] #[.pointer (some ⟨b1, 0, none⟩), .pointer (some ⟨b2, 0, none⟩)])) (hn₀ : n₀ ≤ w.heap.size) (hbel : Below n₀ w0 w) :
    SeqStopsK Fence.wide m Try.prog 115 #[.pointer (some ⟨Bn, 0, none⟩), .pointer (some ⟨Bs, 0, none⟩)] encP (KpS n₀ Bs (.func (.func 91) #[] #[.pointer (some ⟨b1, 0, none⟩), .pointer (some ⟨b2, 0, none⟩)])) (fun ys => ys = uptoF f cnt) (fun _ => True) cnt w := fun l J Jx W hW hJ _ hY h0 =>
  i_it_scl b1 b2 l Bn Bs n₀ cnt m hm f w0 hS hcnt J Jx W hJ hY ((hW.cell (p := ⟨Bn, 0, none⟩) hlt).trans hBn) ((hW.block Bs hBs.lt).trans hBs) (Nat.le_trans hn₀ hW.size) (hbel.trans (hW.mono hn₀)) h0

set_option maxHeartbeats 4000000 in
theorem i_listed_scl (b1 b2 cnt : Nat) (hcnt : cnt ≤ 1048576) (f : Nat → Int × Int) (w : World)
    (hS : ∀ W k, Below w.heap.size w W → k < cnt → Calls Try.prog 91 #[.int .i64 k, .pointer (some ⟨b1, 0, none⟩), .pointer (some ⟨b2, 0, none⟩)] W fun e W' => e = .returned (.agg #[.int .i64 (f k).1, .int .i64 (f k).2]) ∧ Below W.heap.size W W') :
    Calls Try.prog 88 #[.int .i64 cnt, .func (.func 91) #[] #[.pointer (some ⟨b1, 0, none⟩), .pointer (some ⟨b2, 0, none⟩)]] w fun e w' => ∃ g, e = .returned g ∧ OwPointS w' w.heap.size w'.heap.size g (uptoF f cnt) ∧ Below w.heap.size w w' := by
  refine (callsIn_wide (n := 9)).1 ?_
  obtain ⟨i0, hi, hz0, hz1, hz2⟩ := info_parts info_pt
  have hmk := fun W => run_make0 (P := Try.prog) Try.underlying23 info_pt cnt (by omega) (by omega) W
  have hcap : (madeCells (Value.agg #[.int .i64 0, .int .i64 0]).cells (cnt * 2)).size = cnt * 2 := madeCells_size _ _
  obtain ⟨cs, hcs⟩ : ∃ cs, madeCells (Value.agg #[.int .i64 0, .int .i64 0]).cells (cnt * 2) = cs := ⟨_, rfl⟩
  rw [hcs] at hmk hcap
  have HCAP := Lib.hid hcap
  clear hcs hcap
  have c0 : (0 : Int) ≤ (cnt : Int) := by omega
  refine callsIn_of_wp_marks Try.func88 rfl trivial ?_ rfl
  simp only [Try.ntmps88, List.size_toArray, List.length_cons, List.length_nil, Nat.reduceAdd, Nat.reduceSub, Array.replicate_succ, Array.replicate_zero, List.push_toArray, List.append_toArray, List.nil_append, List.cons_append]
  gi_wp2_with (refine ⟨trivial, ?_⟩
               gi_at_call 109
               refine (callsIn_wide.2 (i_shares _ _ _ _ _)).mono ?_
               rintro e w' ⟨rfl, rfl⟩)
  have bL := ((Boxed.new (w.alloc (.cells cs 33)) 23 (.slice (some ⟨w.heap.size, 0, none⟩) 0 cnt)).alloc (.cells #[.int .i64 cnt] 3)).alloc (.cells #[(.func (.func 91) #[] #[.pointer (some ⟨b1, 0, none⟩), .pointer (some ⟨b2, 0, none⟩)])] 98)
  have bN := (Boxed.new ((w.alloc (.cells cs 33)).alloc (.cells #[.slice (some ⟨w.heap.size, 0, none⟩) 0 cnt] 23)) 3 (.int .i64 cnt)).alloc (.cells #[(.func (.func 91) #[] #[.pointer (some ⟨b1, 0, none⟩), .pointer (some ⟨b2, 0, none⟩)])] 98)
  have bS := Boxed.new (((w.alloc (.cells cs 33)).alloc (.cells #[.slice (some ⟨w.heap.size, 0, none⟩) 0 cnt] 23)).alloc (.cells #[.int .i64 cnt] 3)) 98 (.func (.func 91) #[] #[.pointer (some ⟨b1, 0, none⟩), .pointer (some ⟨b2, 0, none⟩)])
  have hrow := (((own_make0 w cs 33 2 cnt HCAP.out (by unfold maxLen; omega)).alloc (.cells #[.slice (some ⟨w.heap.size, 0, none⟩) 0 cnt] 23)).alloc (.cells #[.int .i64 cnt] 3)).alloc (.cells #[(.func (.func 91) #[] #[.pointer (some ⟨b1, 0, none⟩), .pointer (some ⟨b2, 0, none⟩)])] 98)
  simp only [World.size_alloc] at bL bN bS
  have hB0 := ((((Below.refl w.heap.size w).alloc (Nat.le_refl _) (.cells cs 33)).alloc (by simp) (.cells #[.slice (some ⟨w.heap.size, 0, none⟩) 0 cnt] 23)).alloc (by simp; omega) (.cells #[.int .i64 cnt] 3)).alloc (by simp; omega) (.cells #[(.func (.func 91) #[] #[.pointer (some ⟨b1, 0, none⟩), .pointer (some ⟨b2, 0, none⟩)])] 98)
  have hsz : ((((w.alloc (.cells cs 33)).alloc (.cells #[.slice (some ⟨w.heap.size, 0, none⟩) 0 cnt] 23)).alloc (.cells #[.int .i64 cnt] 3)).alloc (.cells #[(.func (.func 91) #[] #[.pointer (some ⟨b1, 0, none⟩), .pointer (some ⟨b2, 0, none⟩)])] 98)).heap.size = w.heap.size + 4 := by simp
  obtain ⟨W0, hW0⟩ : ∃ W0, (((w.alloc (.cells cs 33)).alloc (.cells #[.slice (some ⟨w.heap.size, 0, none⟩) 0 cnt] 23)).alloc (.cells #[.int .i64 cnt] 3)).alloc (.cells #[(.func (.func 91) #[] #[.pointer (some ⟨b1, 0, none⟩), .pointer (some ⟨b2, 0, none⟩)])] 98) = W0 := ⟨_, rfl⟩
  rw [hW0] at bL bN bS hrow hB0 hsz ⊢
  clear hW0 hmk
  refine wpIn_rangeFunc_ownH rfl (by decide) (gf := 115) (lb := #[.pointer (some ⟨w.heap.size + 1 + 1, 0, none⟩), .pointer (some ⟨w.heap.size + 1 + 1 + 1, 0, none⟩)]) rfl trivial (enters_of Try.func115 (by kernel_rfl) rfl)
    (stops_scl b1 b2 (w.heap.size + 1 + 1) (w.heap.size + 1 + 1 + 1) w.heap.size cnt (9 - 1) (by decide) f w W0 hS hcnt (by omega) bN.cell bS (by omega) hB0) KpS_t (KpS_b (by omega)) (Below.refl _ _) (fun _ => rfl)
    (fun pre W => ((∃ v, Boxed W (w.heap.size + 1) 23 v ∧ W.ownsRow w.heap.size 33 2 v pre.length (cP pre) ∧ True) ∧ Below w.heap.size w W))
    (fun _ _ _ => False)
    (OwnFrom.and (Own.from (holdsRow_own w.heap.size (w.heap.size + 1) 23 33 2 (fun (pre : List (Int × Int)) => pre.length) (fun pre => cP pre) (fun _ _ => True)) _) (ownFrom_below (Nat.le_refl _) (by omega)))
    (fun _ _ _ _ _ hs _ _ => hs)
    ⟨⟨_, bL, hrow, trivial⟩, hB0⟩
    (fun x a' W => ∃ Bx, w.heap.size ≤ Bx ∧ W.heap[Bx]? = some (.cells #[.int .i64 x.1, .int .i64 x.2] 33 (0, 0)) ∧ a' = { tmps := #[.int .i64 cnt, (.func (.func 91) #[] #[.pointer (some ⟨b1, 0, none⟩), .pointer (some ⟨b2, 0, none⟩)]), undef, undef, .slice none 0 0, .pointer (some ⟨w.heap.size + 1, 0, none⟩), .pointer (some ⟨Bx, 0, none⟩), .int .i64 cnt, .slice (some ⟨w.heap.size, 0, none⟩) 0 cnt, .int .i64 cnt, (.func (.func 91) #[] #[.pointer (some ⟨b1, 0, none⟩), .pointer (some ⟨b2, 0, none⟩)]), .func (.func 115) #[] #[.pointer (some ⟨w.heap.size + 1 + 1, 0, none⟩), .pointer (some ⟨w.heap.size + 1 + 1 + 1, 0, none⟩)], .agg #[.int .i64 x.1, .int .i64 x.2], undef, undef, undef, undef, undef], defers := [] })
    (fun x a' _ X Y row hs hg hr => by
      obtain ⟨Bx, h1, h2, h3⟩ := hs
      refine ⟨Bx, h1, (hg.block Bx (Array.getElem?_eq_some_iff.1 h2).1 (fun e => ?_)).trans h2, h3⟩
      obtain ⟨_, o, ho, hc⟩ := hr Bx e.symm
      rw [h2] at ho; cases ho; cases hc)
    ?assign ?body ?done ?stop
  case assign =>
    rintro l pre x W K ⟨⟨v, hv, hr, _⟩, hB⟩ hK
    simp only [encP]
    gi_wp2
    exact hK _ _ ((KeepsOthers.alloc _ _).from _) ⟨(Below.refl _ W).alloc hB.size _, fun h => h.alloc _⟩ ⟨⟨v, hv.alloc _, hr.alloc _, trivial⟩, hB.alloc hB.size _⟩ ⟨W.heap.size, hB.size, heap_alloc_new _ _, rfl⟩
  case body =>
    rintro l pre x a' W hl ⟨r, hr⟩ ⟨⟨v, hv, hrow, _⟩, hB⟩ ⟨Bx, hBx, bX, rfl⟩ hlt
    have cL := hv.cell
    have cX0 : W.cell? ⟨Bx, 0, none⟩ = some (.int .i64 x.1) := by rw [cell_of_row W Bx 0 _ _ _ bX]; rfl
    have cX1 : W.cell? ⟨Bx, 1, none⟩ = some (.int .i64 x.2) := by rw [cell_of_row W Bx 1 _ _ _ bX]; rfl
    gi_wp2_with (gi_at_builtin
                 refine wpListIn_append_own _ rfl _ _ 23 rfl w.heap.size 33 i0 _ 2 16 Try.underlying23 hi hz0 hz1 hz2 rfl (by decide) _ _ _ rfl (hrow.alloc _) ⟨W.heap.size, 0, none⟩ 1 1 [.int .i64 x.1, .int .i64 x.2] rfl rfl (cell_two_new _ _ _ _) (by simp [Value.oneCell']) (by unfold maxLen; omega) (by omega) (by have := hB.size; simp; omega) ?_
                 intro v' w1 hown' hgrow _
                 obtain ⟨g', cap', rfl⟩ := ownsRow_succ hown'
                 obtain ⟨hv1, hv2, hr2, hk2, hb2⟩ := hv.appended (by decide) hrow hB.size (by omega) hown' hgrow
                 have hc1 := hv1.cell
                 have hf1 := hv1.frozen
                 have hbs : Boxed W (w.heap.size + 1 + 1 + 1) 98 (.func (.func 91) #[] #[.pointer (some ⟨b1, 0, none⟩), .pointer (some ⟨b2, 0, none⟩)]) → Boxed (w1.setCell ⟨w.heap.size + 1, 0, none⟩ (.slice (some ⟨g', 0, none⟩) (pre.length + 1) cap')) (w.heap.size + 1 + 1 + 1) 98 (.func (.func 91) #[] #[.pointer (some ⟨b1, 0, none⟩), .pointer (some ⟨b2, 0, none⟩)]) := fun h =>
                   ((h.alloc _).kept hgrow (h.not_row (by decide) hrow)).other (by omega) _)
    exact ⟨hk2.from _, ⟨hb2, hbs⟩, ⟨⟨_, hv2, by rw [cP_append, List.length_append]; exact hr2, trivial⟩, hB.trans hb2⟩⟩
  case done =>
    rintro D ys W hD rfl ⟨⟨v, hv, hrow, _⟩, hB⟩ hK
    have cL := hv.cell
    gi_wp2
    refine ⟨by simp, .inl ⟨_, _, rfl, run_takeDeferred hK, ?_⟩⟩
    refine ⟨_, results_tmp rfl _ _ _, v, rfl, ?_, hB.trans (belowK_b (w := w) (Nat.le_refl _) W D _ _ (by omega) hK rfl rfl)⟩
    exact done_pts (ownsRow_putObj hrow _ hK rfl) (by rw [uptoF_length]; exact hcnt)
  case stop =>
    rintro D c pre W _ _ h _
    exact h.elim
end Go.Proofs.Yticmbnfmpjjohaa
