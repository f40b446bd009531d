import Derived.Test.YtjpjmlcmaombnaaWalk5f
import Derived.Test.YtjpjmlcmaombnaaWalk3a
import Derived.Test.YtjpjmlcmaombnaaDraw3
import Derived.Test.YtjpjmlcmaombnaaLaw
import Derived.Test.YtjpjmlcmaombnaaDraw8
import Derived.Deep.QuietTactic
import Derived.BigQuiet
import Derived.Test.YtjpjmlcmaombnaaWalk5e
import Derived.Test.YtjpjmlcmaombnaaWalk2n
import Derived.Test.YtjpjmlcmaombnaaWalk2m
import Derived.Test.YtjpjmlcmaombnaaAppend
import Derived.Maps.Range
import Derived.Recover
import Derived.Laws.Pointers
import Derived.Test.YtjpjmlcmaombnaaFaceP
import Derived.StillTailTactics
import Derived.Test.YtjpjmlcmaombnaaDraw2b
/- Chapter 4: the iterator and what lists it, over SharesScale's closure. -/
namespace Go.Proofs.Ytjpjmlcmaombnaa
open Go.RowKit Go.Shelf
end Go.Proofs.Ytjpjmlcmaombnaa

/- Chapter 4: the list of what an iterator over shares gives, over SharesScale's closure. -/
namespace Go.Proofs.Ytjpjmlcmaombnaa
open Go.RowKit Go.Shelf
set_option maxRecDepth 100000
attribute [local go_sem] Oper.semAt_some

theorem run_make0 {P : Program} {t e : TypeId} {z : Value} {bytes size : Nat} (ht : P.underlying t = some (.slice e)) (hi : (P.info? e).map (fun i => (i.zero, i.size, i.bytes)) = some (some z, size, bytes))
    (n : Nat) (hb : bytes * n ≤ 281474976710656) (hn : n ≤ 9223372036854775807) (w : World) :
    (Instr.makeSlice t (.int .i64 0) (.int .i64 (n : Int))).run P w = .ok (.slice (some ⟨w.heap.size, 0, none⟩) 0 n) (w.alloc (.cells (madeCells z.cells (n * size)) e)) := by
  obtain ⟨i, hi, hz0, hz1, hz2⟩ := info_parts hi
  have hb' : (i.bytes : Int) * (n : Int) ≤ 281474976710656 := by
    have h : ((i.bytes * n : Nat) : Int) ≤ 281474976710656 := by rw [hz2]; omega
    rwa [Int.natCast_mul] at h
  have hr := run_make (P := P) w t e i z ht hi hz0 .i64 .i64 0 n (by omega) (by omega) hb' (by omega)
  simp only [Int.toNat_natCast, hz1] at hr
  exact hr
theorem own_make0 (w : World) (cs : Array Value) (e size n : Nat) (hs : cs.size = n * size) (hn : n ≤ maxLen) : (w.alloc (.cells cs e)).ownsRow w.heap.size e size (.slice (some ⟨w.heap.size, 0, none⟩) 0 n) 0 [] :=
  ⟨by simp, .inr ⟨w.heap.size, n, cs, rfl, Nat.le_refl _, heap_alloc_new _ _, Nat.zero_le _, hn, hs, by simp⟩⟩
theorem cell_two_new (w : World) (x y : Value) (t : TypeId) : ∀ j u, [x, y][j]? = some u → (w.alloc (.cells #[x, y] t)).cell? ((⟨w.heap.size, 0, none⟩ : Addr).add j) = some u := by
  intro j u hj
  rw [addr_add, Nat.zero_add, World.cell?_alloc_new]
  simpa using hj
theorem madeCells_size (z : Array Value) (n : Nat) : (madeCells z n).size = n := by simp [madeCells]

end Go.Proofs.Ytjpjmlcmaombnaa

/- Chapter 4: SharesOf in the model. -/
namespace Go.Proofs.Ytjpjmlcmaombnaa
open Go.RowKit Go.Shelf
set_option maxRecDepth 100000

def shF (cs : List Int) (i : Nat) : Int × Int := ((i : Int) + 1, atI cs ((i : Int) + 1))
def ofB (s n : Int) (t : List Int) : Bool := numB s && (numsB t && (inB n 1 7 && decide ((t.length : Int) < n)))
def R_SharesOf_1 (s n : Int) (t : List Int) : Bool := ofB s n t
def R_SharesOf_0 (s n : Int) (t : List Int) : List (Int × Int) := if ofB s n t = true then uptoF (shF (s :: t)) n.toNat else []
theorem of_no {s n : Int} {t : List Int} (h : ofB s n t = false) : Hid (R_SharesOf_1 s n t = false ∧ R_SharesOf_0 s n t = []) := Lib.hid ⟨h, by unfold R_SharesOf_0; rw [h]; rfl⟩
theorem nums_cons {s : Int} {t : List Int} (h : 0 ≤ s ∧ s ≤ 112) (ht : Nums t) : Nums (s :: t) := fun j => by
  cases j with
  | zero => exact h
  | succ j => exact ht j
theorem lit_int (w : World) (s : Int) : (w.alloc (.cells #[.int .i64 s] 3)).ownsRow w.heap.size 3 1 (.slice (some ⟨w.heap.size, 0, none⟩) 1 1) 1 [.int .i64 s] :=
  ⟨rfl, .inr ⟨w.heap.size, 1, _, rfl, Nat.le_refl _, heap_alloc_new _ _, Nat.le_refl _, by unfold maxLen; omega, rfl, rfl⟩⟩
/-- another row is none of this type's blocks -/
theorem own_other {w : World} {B e t n s g : Nat} {v : Value} {xs : List Value} {cs : Array Value} (h : w.ownsRow B e s v n xs) (hte : e ≠ t) (hg : w.heap[g]? = some (.cells cs t (0, 0))) : v.ownBlock ≠ some g := by
  intro e1
  rcases h.2 with ⟨rfl, _⟩ | ⟨g', cap, cur, rfl, _, hh, _⟩
  · simp [Value.ownBlock] at e1
  · simp [Value.ownBlock] at e1
    subst e1
    rw [hg] at hh; injection hh with hh; injection hh with _ ht
    exact hte ht.symm

set_option maxHeartbeats 2000000 in
theorem s_l4Of (s : Int) (N : Nat) (A : Option Addr) (m c : Nat) (zs : List Int) (w : World) (h : Rd w w.heap.size 1 A m (cI zs)) (hm : m ≤ 1000) (hN : N ≤ 7) (hs : 0 ≤ s ∧ s ≤ 112) (hz : Nums zs) :
    Calls Try.prog 97 #[.int .i64 s, .int .i64 N, .slice A m c] w fun e w' => ∃ g, e = .returned g ∧ OwPointS w' w.heap.size w'.heap.size g (uptoF (shF (s :: zs)) N) ∧ Below w.heap.size w w' := by
  have HNU := Lib.hid (nums_cons hs hz)
  have HLN := Lib.hid h.len
  have HL : Hid ((w.alloc (.cells #[] 53)).heap.size = w.heap.size + 1) := Lib.hid (by simp)
  have HBa := Lib.hid ((Below.refl w.heap.size w).alloc (Nat.le_refl _) (.cells #[] 53))
  have HOa : Hid ((w.alloc (.cells #[] 53)).ownsRow w.heap.size 53 2 (.slice (some ⟨w.heap.size, 0, none⟩) 0 0) 0 (cP (uptoF (shF (s :: zs)) 0))) := Lib.hid (own_empty w _ 2)
  have HRa : Hid (Rd (w.alloc (.cells #[] 53)) w.heap.size 1 A m (cI zs)) := Lib.hid (h.below HBa.out)
  clear h
  go_enter Try.func97, Try.ntmps97
  have HLIT := Lib.hid (lit_int (w.alloc (.cells #[] 53)) s)
  have HZ2 : Hid ((w.alloc (.cells #[] 53)).heap.size ≤ ((w.alloc (.cells #[] 53)).alloc (.cells #[.int .i64 s] 3)).heap.size) := Lib.hid (by simp)
  have HR2 : Hid (Rd ((w.alloc (.cells #[] 53)).alloc (.cells #[.int .i64 s] 3)) w.heap.size 1 A m (cI zs)) := Lib.hid (HRa.out.below ((Below.refl _ _).alloc (by simp) _))
  have HO2 : Hid (((w.alloc (.cells #[] 53)).alloc (.cells #[.int .i64 s] 3)).ownsRow w.heap.size 53 2 (.slice (some ⟨w.heap.size, 0, none⟩) 0 0) 0 (cP (uptoF (shF (s :: zs)) 0))) := Lib.hid (HOa.out.alloc _)
  have HB2 : Hid (Below w.heap.size w ((w.alloc (.cells #[] 53)).alloc (.cells #[.int .i64 s] 3))) := Lib.hid (HBa.out.alloc (by simp) _)
  go_wp2_with (at_builtin
               refine wpList_append_rd rfl (.tmp 12) (.tmp 13) _ rfl (w.alloc (.cells #[] 53)).heap.size 3 _ 1 8 Try.underlying26 info_int rfl (by decide) (.slice (some ⟨w.heap.size + 1, 0, none⟩) 1 1) 1 [.int .i64 s] rfl (by have := HLIT.out; simp only [World.size_alloc] at this ⊢; exact this) _ A m c (cI zs) rfl HR2.out (cI_one _) (by unfold maxLen; omega) (by omega) HZ2.out ?_
               intro v5 w5 hown hgr hat
               obtain ⟨A5, c5, hv5, ho5⟩ := Ow.of_own hown
               subst hv5
               obtain ⟨gp, cp, hA5, gp1, gp2, hgp, htk⟩ := ho5.lt (by omega)
               subst hA5
               have HGP : Hid (w5.heap[gp]? = some (.cells cp 3 (0, 0)) ∧ cp.toList.take ((1 + m) * 1) = cI (s :: zs) ∧ w.heap.size ≤ gp ∧ 1 + m ≤ c5) := Lib.hid ⟨hgp, htk, by have := HL.out; omega, ho5.2.1⟩
               have HB5 : Hid (Below w.heap.size w w5) := Lib.hid (below_grown HB2.out hgr (fun g e => by simp [Value.ownBlock] at e; omega) (by have := HZ2.out; have := HL.out; omega))
               have HO5 : Hid (w5.ownsRow w.heap.size 53 2 (.slice (some ⟨w.heap.size, 0, none⟩) 0 0) 0 (cP (uptoF (shF (s :: zs)) 0))) := Lib.hid (HO2.out.kept hgr (.inr (by simp [Value.ownBlock])))
               clear hown hgr hat ho5 gp1 gp2 hgp htk)
  clear HOa HRa HLIT HZ2 HR2 HO2 HB2 HBa HL
  go_loopw [7, 9] (fun out i wr => ∃ (k : Nat) (Ao : Option Addr) (co : Nat), k ≤ N ∧ i = .int .i64 ((k : Int) + 1) ∧ out = .slice Ao k co ∧ Hid (wr.ownsRow w.heap.size 53 2 (.slice Ao k co) k (cP (uptoF (shF (s :: zs)) k))) ∧ Hid (Below w.heap.size w wr) ∧ Hid (wr.heap[gp]? = some (.cells cp 3 (0, 0)))) (fun _ i _ => N + 1 - (intOf i).toNat)
  case atStart => exact ⟨0, _, 0, Nat.zero_le _, rfl, rfl, HO5, HB5, Lib.hid HGP.out.1⟩
  case round =>
    clear HO5 HB5
    obtain ⟨k, Ao, co, hk, rfl, rfl, HO, HB, HC⟩ := hrel
    by_cases hlt : k < N
    · have i0 : (0 : Int) ≤ (k : Int) := by omega
      have i1 : (k : Int) + 1 ≤ (N : Int) := by omega
      have HRp : Hid (Rd wr wr.heap.size 1 (some ⟨gp, 0, none⟩) (1 + m) (cI (s :: zs))) := Lib.hid (Ow.rd (w := wr) (lo := w.heap.size) (e := 3) (c := c5) ⟨by rw [cI_length, List.length_cons, HLN.out]; omega, HGP.out.2.2.2, .inr ⟨gp, cp, rfl, HGP.out.2.2.1, (Array.getElem?_eq_some_iff.1 HC.out).1, HC.out, HGP.out.2.1⟩⟩)
      go_wp2_with fail
      refine (s_l2At _ _ _ _ _ _ HRp.out HNU.out (by omega) (by omega) (by omega)).mono ?_
      rintro e w2 ⟨rfl, rfl⟩
      have hzw := HB.out.size
      have HOl := Lib.hid (HO.out.alloc (.cells #[.int .i64 ((k : Int) + 1), .int .i64 (atI (s :: zs) ((k : Int) + 1))] 53))
      have HLP : Hid (Rd (wr.alloc (.cells #[.int .i64 ((k : Int) + 1), .int .i64 (atI (s :: zs) ((k : Int) + 1))] 53)) (wr.heap.size + 1) 2 (some ⟨wr.heap.size, 0, none⟩) 1 (cP [((k : Int) + 1, atI (s :: zs) ((k : Int) + 1))])) := Lib.hid (lit_pt_at (heap_alloc_new _ _))
      go_wp2_with (at_builtin
                   refine wpList_append_rd rfl (.tmp 20) (.tmp 26) _ rfl w.heap.size 53 _ 2 16 Try.underlying29 info_pt rfl (by decide) (.slice Ao k co) k _ rfl HOl.out _ _ 1 1 (cP [((k : Int) + 1, atI (s :: zs) ((k : Int) + 1))]) rfl HLP.out (cP_one _) (by unfold maxLen; omega) (by omega) (by simp; omega) ?_
                   intro v6 w6 hown hgr hat
                   obtain ⟨A6, c6, hv6, ho6⟩ := Ow.of_own hown
                   subst hv6
                   have HO6 : Hid (w6.ownsRow w.heap.size 53 2 (.slice A6 (k + 1) c6) (k + 1) (cP (uptoF (shF (s :: zs)) (k + 1)))) := Lib.hid (by rw [uptoF_succ, cP_append]; exact hown)
                   have HB6 : Hid (Below w.heap.size w w6) := Lib.hid (below_grown (HB.out.alloc hzw _) hgr (own_block HO.out) (by simp; omega))
                   have HC6 : Hid (w6.heap[gp]? = some (.cells cp 3 (0, 0))) := Lib.hid ((hgr.block gp (by have := (Array.getElem?_eq_some_iff.1 HC.out).1; simp; omega) (fun e => own_other HO.out (by decide) HC.out e.symm)).trans ((Below.heap_alloc _ _ _ (Array.getElem?_eq_some_iff.1 HC.out).1).trans HC.out))
                   clear hown hgr hat ho6)
      go_roundw
      case rel => exact ⟨k + 1, A6, c6, by omega, by go_num, rfl, HO6, HB6, HC6⟩
      case measure => simp [intOf] <;> omega
    · obtain rfl : N = k := by omega
      have HOr : Hid (OwPointS wr w.heap.size wr.heap.size (.slice Ao N co) (uptoF (shF (s :: zs)) N)) := Lib.hid (done_pts HO.out (by omega))
      go_wp2
      go_ret
      exact ⟨_, rfl, HOr.out, HB.out⟩
end Go.Proofs.Ytjpjmlcmaombnaa

/- Chapter 4: the iterator and the list over given's closure (made from XWalk5g, XWalk5h by tools/gen5.py) -/
namespace Go.Proofs.Ytjpjmlcmaombnaa
open Go.RowKit Go.Shelf
set_option maxRecDepth 100000
attribute [local go_sem] Oper.semAt_some

set_option maxHeartbeats 2000000 in
theorem i_it_given (b1 l Bn Bs n₀ cnt m : Nat) (hm : 1 ≤ m) (f : Nat → Int × Int) (w0 : World)
    (hS : ∀ W k, Below n₀ w0 W → k < cnt → Calls Try.prog 118 #[.int .i64 k, .pointer (some ⟨b1, 0, none⟩)] W fun e W' => e = .returned (.agg #[.int .i64 (f k).1, .int .i64 (f k).2]) ∧ Below W.heap.size W W')
    (hcnt : cnt ≤ 1048576) (J Jx : List (Int × Int) → World → Prop) (W : World) (hJ : AbidesFrom W.heap.size J)
    (hY : ∀ pre x W1, J pre W1 → pre.length < cnt → YieldAt Fence.wide (m - 1) Try.prog l (encP x) W1 fun e W' =>
      (e = .returned (.bool true) ∧ J (pre ++ [x]) W' ∧ KpS n₀ Bs (.func (.func 118) #[] #[.pointer (some ⟨b1, 0, none⟩)]) W1 W') ∨ (e = .returned (.bool false) ∧ Jx (pre ++ [x]) W'))
    (hBn : W.cell? ⟨Bn, 0, none⟩ = some (.int .i64 cnt)) (hBs : Boxed W Bs 122 (.func (.func 118) #[] #[.pointer (some ⟨b1, 0, none⟩)])) (hn₀ : n₀ ≤ W.heap.size) (hbel : Below n₀ w0 W) (h0 : J [] W) :
    CallsIn Fence.wide m Try.prog 129 #[.func (.yield l) #[] #[], .pointer (some ⟨Bn, 0, none⟩), .pointer (some ⟨Bs, 0, none⟩)] W fun e W' => (∃ v, e = .returned v) ∧
      ((∃ ys, ys = uptoF f cnt ∧ J ys W') ∨ (∃ pre, True ∧ Jx pre W')) := by
  have hm1 : 1 ≤ m := hm
  refine callsIn_of_wp Try.func129 rfl trivial ?_ rfl
  simp only [Try.ntmps129, List.size_toArray, List.length_cons, List.length_nil, Nat.reduceAdd, Nat.reduceSub, Array.replicate_succ, Array.replicate_zero, List.push_toArray, List.append_toArray, List.nil_append, List.cons_append]
  gi_wp2
  gi_loopw [6] (fun i wr => ∃ k : Nat, k ≤ cnt ∧ i = .int .i64 k ∧ J (uptoF f k) wr ∧ Hid (Below n₀ w0 wr) ∧ Hid (n₀ ≤ wr.heap.size) ∧ Hid (Boxed wr Bs 122 (.func (.func 118) #[] #[.pointer (some ⟨b1, 0, none⟩)])))
    (fun i _ => cnt - (intOf i).toNat)
  case atStart => exact ⟨0, Nat.zero_le _, rfl, h0, Lib.hid hbel, Lib.hid hn₀, Lib.hid hBs⟩
  case round =>
    obtain ⟨k, hk, rfl, hJs, HBL, HZ, HBS⟩ := hrel
    by_cases hlt : k < cnt
    · have hcs := HBS.out.cell
      have i0 : (0 : Int) ≤ (k : Int) := by omega
      have i1 : (k : Int) < (cnt : Int) := by omega
      gi_wp2_with (refine ⟨trivial, ?_⟩
                   gi_at_call 118
                   refine (callsIn_wide.2 (hS _ k HBL.out hlt)).mono ?_
                   rintro e W1 ⟨rfl, hb1⟩
                   have hJ1 := hJ _ _ _ none hJs (grown_of_below hb1) (fun r e => by cases e)
                   have HBS1 : Hid (Boxed W1 Bs 122 (.func (.func 118) #[] #[.pointer (some ⟨b1, 0, none⟩)])) := Lib.hid (HBS.out.kept (grown_of_below hb1) (by simp))
                   have HBL1 : Hid (Below n₀ w0 W1) := Lib.hid (HBL.out.trans (hb1.mono HZ.out))
                   have HZ1 : Hid (n₀ ≤ W1.heap.size) := Lib.hid (Nat.le_trans HZ.out hb1.size)
                   obtain ⟨fn, tmps, assign, body, hy, hR⟩ := hY _ (f k) W1 hJ1 (by rw [uptoF_length]; exact hlt)
                   simp only [encP] at hy
                   clear hb1 HBL HZ HBS hJs hcs)
      refine hR.mono ?_
      rintro e W3 (⟨rfl, hJ3, hk3⟩ | ⟨rfl, hJx3⟩)
      · have HK3 := Lib.hid hk3
        clear hk3
        gi_wp2
        go_roundw
        case rel => exact ⟨k + 1, by omega, by go_num, by rw [uptoF_succ]; exact hJ3, Lib.hid (HBL1.out.trans HK3.out.1), Lib.hid (Nat.le_trans HZ1.out HK3.out.1.size), Lib.hid (HK3.out.2 HBS1.out)⟩
        case measure => simp [intOf] <;> omega
      · gi_wp2
        refine bodyPost_ret (results_none rfl _ _ _) rfl ?_
        exact ⟨⟨_, rfl⟩, .inr ⟨_, trivial, hJx3⟩⟩
    · obtain rfl : k = cnt := by omega
      gi_wp2
      go_end0
      exact ⟨⟨_, rfl⟩, .inl ⟨_, rfl, hJs⟩⟩
theorem stops_given (b1 Bn Bs n₀ cnt m : Nat) (hm : 1 ≤ m) (f : Nat → Int × Int) (w0 w : World)
    (hS : ∀ W k, Below n₀ w0 W → k < cnt → Calls Try.prog 118 #[.int .i64 k, .pointer (some ⟨b1, 0, none⟩)] W fun e W' => e = .returned (.agg #[.int .i64 (f k).1, .int .i64 (f k).2]) ∧ Below W.heap.size W W')
    (hcnt : cnt ≤ 1048576) (hlt : Bn < w.heap.size) (hBn : w.cell? ⟨Bn, 0, none⟩ = some (.int .i64 cnt)) (hBs : Boxed w Bs 122 (.func (.func 118) #[] #[.pointer (some ⟨b1, 0, none⟩)])) (hn₀ : n₀ ≤ w.heap.size) (hbel : Below n₀ w0 w) :
    SeqStopsK Fence.wide m Try.prog 129 #[.pointer (some ⟨Bn, 0, none⟩), .pointer (some ⟨Bs, 0, none⟩)] encP (KpS n₀ Bs (.func (.func 118) #[] #[.pointer (some ⟨b1, 0, none⟩)])) (fun ys => ys = uptoF f cnt) (fun _ => True) cnt w := fun l J Jx W hW hJ _ hY h0 =>
  i_it_given b1 l Bn Bs n₀ cnt m hm f w0 hS hcnt J Jx W hJ hY ((hW.cell (p := ⟨Bn, 0, none⟩) hlt).trans hBn) ((hW.block Bs hBs.lt).trans hBs) (Nat.le_trans hn₀ hW.size) (hbel.trans (hW.mono hn₀)) h0

set_option maxHeartbeats 4000000 in
theorem i_listed_given (b1 cnt : Nat) (hcnt : cnt ≤ 1048576) (f : Nat → Int × Int) (w : World)
    (hS : ∀ W k, Below w.heap.size w W → k < cnt → Calls Try.prog 118 #[.int .i64 k, .pointer (some ⟨b1, 0, none⟩)] W fun e W' => e = .returned (.agg #[.int .i64 (f k).1, .int .i64 (f k).2]) ∧ Below W.heap.size W W') :
    Calls Try.prog 117 #[.int .i64 cnt, .func (.func 118) #[] #[.pointer (some ⟨b1, 0, none⟩)]] w fun e w' => ∃ g, e = .returned g ∧ OwPointS w' w.heap.size w'.heap.size g (uptoF f cnt) ∧ Below w.heap.size w w' := by
  refine (callsIn_wide (n := 9)).1 ?_
  obtain ⟨i0, hi, hz0, hz1, hz2⟩ := info_parts info_pt
  have hmk := fun W => run_make0 (P := Try.prog) Try.underlying29 info_pt cnt (by omega) (by omega) W
  have hcap : (madeCells (Value.agg #[.int .i64 0, .int .i64 0]).cells (cnt * 2)).size = cnt * 2 := madeCells_size _ _
  obtain ⟨cs, hcs⟩ : ∃ cs, madeCells (Value.agg #[.int .i64 0, .int .i64 0]).cells (cnt * 2) = cs := ⟨_, rfl⟩
  rw [hcs] at hmk hcap
  have HCAP := Lib.hid hcap
  clear hcs hcap
  have c0 : (0 : Int) ≤ (cnt : Int) := by omega
  refine callsIn_of_wp_marks Try.func117 rfl trivial ?_ rfl
  simp only [Try.ntmps117, List.size_toArray, List.length_cons, List.length_nil, Nat.reduceAdd, Nat.reduceSub, Array.replicate_succ, Array.replicate_zero, List.push_toArray, List.append_toArray, List.nil_append, List.cons_append]
  gi_wp2_with (refine ⟨trivial, ?_⟩
               gi_at_call 126
               refine (callsIn_wide.2 (i_shares _ _ _ _ _)).mono ?_
               rintro e w' ⟨rfl, rfl⟩)
  have bL := ((Boxed.new (w.alloc (.cells cs 53)) 29 (.slice (some ⟨w.heap.size, 0, none⟩) 0 cnt)).alloc (.cells #[.int .i64 cnt] 3)).alloc (.cells #[(.func (.func 118) #[] #[.pointer (some ⟨b1, 0, none⟩)])] 122)
  have bN := (Boxed.new ((w.alloc (.cells cs 53)).alloc (.cells #[.slice (some ⟨w.heap.size, 0, none⟩) 0 cnt] 29)) 3 (.int .i64 cnt)).alloc (.cells #[(.func (.func 118) #[] #[.pointer (some ⟨b1, 0, none⟩)])] 122)
  have bS := Boxed.new (((w.alloc (.cells cs 53)).alloc (.cells #[.slice (some ⟨w.heap.size, 0, none⟩) 0 cnt] 29)).alloc (.cells #[.int .i64 cnt] 3)) 122 (.func (.func 118) #[] #[.pointer (some ⟨b1, 0, none⟩)])
  have hrow := (((own_make0 w cs 53 2 cnt HCAP.out (by unfold maxLen; omega)).alloc (.cells #[.slice (some ⟨w.heap.size, 0, none⟩) 0 cnt] 29)).alloc (.cells #[.int .i64 cnt] 3)).alloc (.cells #[(.func (.func 118) #[] #[.pointer (some ⟨b1, 0, none⟩)])] 122)
  simp only [World.size_alloc] at bL bN bS
  have hB0 := ((((Below.refl w.heap.size w).alloc (Nat.le_refl _) (.cells cs 53)).alloc (by simp) (.cells #[.slice (some ⟨w.heap.size, 0, none⟩) 0 cnt] 29)).alloc (by simp; omega) (.cells #[.int .i64 cnt] 3)).alloc (by simp; omega) (.cells #[(.func (.func 118) #[] #[.pointer (some ⟨b1, 0, none⟩)])] 122)
  have hsz : ((((w.alloc (.cells cs 53)).alloc (.cells #[.slice (some ⟨w.heap.size, 0, none⟩) 0 cnt] 29)).alloc (.cells #[.int .i64 cnt] 3)).alloc (.cells #[(.func (.func 118) #[] #[.pointer (some ⟨b1, 0, none⟩)])] 122)).heap.size = w.heap.size + 4 := by simp
  obtain ⟨W0, hW0⟩ : ∃ W0, (((w.alloc (.cells cs 53)).alloc (.cells #[.slice (some ⟨w.heap.size, 0, none⟩) 0 cnt] 29)).alloc (.cells #[.int .i64 cnt] 3)).alloc (.cells #[(.func (.func 118) #[] #[.pointer (some ⟨b1, 0, none⟩)])] 122) = W0 := ⟨_, rfl⟩
  rw [hW0] at bL bN bS hrow hB0 hsz ⊢
  clear hW0 hmk
  refine wpIn_rangeFunc_ownH rfl (by decide) (gf := 129) (lb := #[.pointer (some ⟨w.heap.size + 1 + 1, 0, none⟩), .pointer (some ⟨w.heap.size + 1 + 1 + 1, 0, none⟩)]) rfl trivial (enters_of Try.func129 (by kernel_rfl) rfl)
    (stops_given b1 (w.heap.size + 1 + 1) (w.heap.size + 1 + 1 + 1) w.heap.size cnt (9 - 1) (by decide) f w W0 hS hcnt (by omega) bN.cell bS (by omega) hB0) KpS_t (KpS_b (by omega)) (Below.refl _ _) (fun _ => rfl)
    (fun pre W => ((∃ v, Boxed W (w.heap.size + 1) 29 v ∧ W.ownsRow w.heap.size 53 2 v pre.length (cP pre) ∧ True) ∧ Below w.heap.size w W))
    (fun _ _ _ => False)
    (OwnFrom.and (Own.from (holdsRow_own w.heap.size (w.heap.size + 1) 29 53 2 (fun (pre : List (Int × Int)) => pre.length) (fun pre => cP pre) (fun _ _ => True)) _) (ownFrom_below (Nat.le_refl _) (by omega)))
    (fun _ _ _ _ _ hs _ _ => hs)
    ⟨⟨_, bL, hrow, trivial⟩, hB0⟩
    (fun x a' W => ∃ Bx, w.heap.size ≤ Bx ∧ W.heap[Bx]? = some (.cells #[.int .i64 x.1, .int .i64 x.2] 53 (0, 0)) ∧ a' = { tmps := #[.int .i64 cnt, (.func (.func 118) #[] #[.pointer (some ⟨b1, 0, none⟩)]), undef, undef, .slice none 0 0, .pointer (some ⟨w.heap.size + 1, 0, none⟩), .pointer (some ⟨Bx, 0, none⟩), .int .i64 cnt, .slice (some ⟨w.heap.size, 0, none⟩) 0 cnt, .int .i64 cnt, (.func (.func 118) #[] #[.pointer (some ⟨b1, 0, none⟩)]), .func (.func 129) #[] #[.pointer (some ⟨w.heap.size + 1 + 1, 0, none⟩), .pointer (some ⟨w.heap.size + 1 + 1 + 1, 0, none⟩)], .agg #[.int .i64 x.1, .int .i64 x.2], undef, undef, undef, undef, undef], defers := [] })
    (fun x a' _ X Y row hs hg hr => by
      obtain ⟨Bx, h1, h2, h3⟩ := hs
      refine ⟨Bx, h1, (hg.block Bx (Array.getElem?_eq_some_iff.1 h2).1 (fun e => ?_)).trans h2, h3⟩
      obtain ⟨_, o, ho, hc⟩ := hr Bx e.symm
      rw [h2] at ho; cases ho; cases hc)
    ?assign ?body ?done ?stop
  case assign =>
    rintro l pre x W K ⟨⟨v, hv, hr, _⟩, hB⟩ hK
    simp only [encP]
    gi_wp2
    exact hK _ _ ((KeepsOthers.alloc _ _).from _) ⟨(Below.refl _ W).alloc hB.size _, fun h => h.alloc _⟩ ⟨⟨v, hv.alloc _, hr.alloc _, trivial⟩, hB.alloc hB.size _⟩ ⟨W.heap.size, hB.size, heap_alloc_new _ _, rfl⟩
  case body =>
    rintro l pre x a' W hl ⟨r, hr⟩ ⟨⟨v, hv, hrow, _⟩, hB⟩ ⟨Bx, hBx, bX, rfl⟩ hlt
    have cL := hv.cell
    have cX0 : W.cell? ⟨Bx, 0, none⟩ = some (.int .i64 x.1) := by rw [cell_of_row W Bx 0 _ _ _ bX]; rfl
    have cX1 : W.cell? ⟨Bx, 1, none⟩ = some (.int .i64 x.2) := by rw [cell_of_row W Bx 1 _ _ _ bX]; rfl
    gi_wp2_with (gi_at_builtin
                 refine wpListIn_append_own _ rfl _ _ 29 rfl w.heap.size 53 i0 _ 2 16 Try.underlying29 hi hz0 hz1 hz2 rfl (by decide) _ _ _ rfl (hrow.alloc _) ⟨W.heap.size, 0, none⟩ 1 1 [.int .i64 x.1, .int .i64 x.2] rfl rfl (cell_two_new _ _ _ _) (by simp [Value.oneCell']) (by unfold maxLen; omega) (by omega) (by have := hB.size; simp; omega) ?_
                 intro v' w1 hown' hgrow _
                 obtain ⟨g', cap', rfl⟩ := ownsRow_succ hown'
                 obtain ⟨hv1, hv2, hr2, hk2, hb2⟩ := hv.appended (by decide) hrow hB.size (by omega) hown' hgrow
                 have hc1 := hv1.cell
                 have hf1 := hv1.frozen
                 have hbs : Boxed W (w.heap.size + 1 + 1 + 1) 122 (.func (.func 118) #[] #[.pointer (some ⟨b1, 0, none⟩)]) → Boxed (w1.setCell ⟨w.heap.size + 1, 0, none⟩ (.slice (some ⟨g', 0, none⟩) (pre.length + 1) cap')) (w.heap.size + 1 + 1 + 1) 122 (.func (.func 118) #[] #[.pointer (some ⟨b1, 0, none⟩)]) := fun h =>
                   ((h.alloc _).kept hgrow (h.not_row (by decide) hrow)).other (by omega) _)
    exact ⟨hk2.from _, ⟨hb2, hbs⟩, ⟨⟨_, hv2, by rw [cP_append, List.length_append]; exact hr2, trivial⟩, hB.trans hb2⟩⟩
  case done =>
    rintro D ys W hD rfl ⟨⟨v, hv, hrow, _⟩, hB⟩ hK
    have cL := hv.cell
    gi_wp2
    refine ⟨by simp, .inl ⟨_, _, rfl, run_takeDeferred hK, ?_⟩⟩
    refine ⟨_, results_tmp rfl _ _ _, v, rfl, ?_, hB.trans (belowK_b (w := w) (Nat.le_refl _) W D _ _ (by omega) hK rfl rfl)⟩
    exact done_pts (ownsRow_putObj hrow _ hK rfl) (by rw [uptoF_length]; exact hcnt)
  case stop =>
    rintro D c pre W _ _ h _
    exact h.elim
end Go.Proofs.Ytjpjmlcmaombnaa

/- Chapter 4: SharesOf, in the model and in the program. -/
namespace Go.Proofs.Ytjpjmlcmaombnaa
open Go.RowKit Go.Shelf
set_option maxRecDepth 100000

theorem append_types {P : Program} {t t2 ty e e2 : TypeId} (ht : P.underlying t = some (.slice e)) (ht2 : P.underlying t2 = some (.slice e2)) (args : Array Value) (w : World) :
    (Builtin.append_ #[t, t2] ty args).run P w = (Builtin.append_ #[t, t] ty args).run P w := by
  unfold Builtin.append_
  cases args[0]? <;> cases args[1]? <;> simp [run_underlying ht]
  split <;> simp [run_underlying ht, run_underlying ht2]
theorem wpList_append_rd2 {P : Program} {w : World} {ops : Array Oper} {rest : List Oper} {o : Oper} {a : Act} {Q : Exit → Act → World → Prop} (hgd : o.guard = none) (s x : Operand) (t t2 e2 : TypeId)
    (ho : o.op = .call { callee := .builtin .append, args := #[s, x], argTypes := #[t, t2] })
    (base : Nat) (e : TypeId) (z : Value) (size bytes : Nat) (ht : P.underlying t = some (.slice e)) (ht2 : P.underlying t2 = some (.slice e2)) (hi : (P.info? e).map (fun i => (i.zero, i.size, i.bytes)) = some (some z, size, bytes))
    (hzs : z.cells.size = size) (hsz : 0 < size) (v : Value) (n : Nat) (xs : List Value) (hs : a.eval s = v) (hown : w.ownsRow base e size v n xs)
    (hb : Nat) (A : Option Addr) (m c : Nat) (news : List Value) (hx : a.eval x = .slice A m c) (hr : Rd w hb size A m news) (h1 : ∀ u ∈ news, u.oneCell' = true)
    (h63 : n + m ≤ maxLen) (hbytes : (n + m) * bytes ≤ 140737488355328) (hbase : base ≤ w.heap.size)
    (h : ∀ v' w', w'.ownsRow base e size v' (n + m) (xs ++ news) → w.grownBy w' v.ownBlock → (v'.ownBlock = v.ownBlock ∨ v'.ownBlock = some w.heap.size) → wpList P ops Q rest (a.put o.dst v') w') :
    wpList P ops Q (o :: rest) a w := by
  refine wpList_plain hgd fun K hK => ?_
  obtain ⟨v', w', hrun, h2, h3, h4⟩ := run_append_rd (P := P) (w := w) base t o.type e z size bytes ht hi hzs hsz v n xs hown hb A m c news hr h1 h63 hbytes hbase
  rw [← append_types ht ht2] at hrun
  unfold Oper.wp execOp
  simp only [ho, resolve, invoke, builtin, Sem.run_bind, Sem.run_pure, Result.andThen_ok, List.map_toArray, List.map_cons, List.map_nil, hs, hx, hrun]
  exact hK _ _ (h v' w' h2 h3 h4)

set_option maxHeartbeats 1000000 in
theorem i_secretWith (s : Int) (A : Option Addr) (m c : Nat) (zs : List Int) (w : World) (h : Rd w w.heap.size 1 A m (cI zs)) (hm : m ≤ 1000) :
    Calls Try.prog 89 #[.int .i64 s, .slice A m c] w fun e w' => ∃ A' c', e = .returned (.slice A' (1 + m) c') ∧ Ow w' w.heap.size w'.heap.size 3 1 A' (1 + m) c' (cI (s :: zs)) ∧ Below w.heap.size w w' := by
  have HLIT := Lib.hid (lit_int w s)
  have HRD : Hid (Rd (w.alloc (.cells #[.int .i64 s] 3)) w.heap.size 1 A m (cI zs)) := Lib.hid (h.below ((Below.refl _ _).alloc (Nat.le_refl _) _))
  clear h
  go_enter Try.func89, Try.ntmps89
  go_wp2_with (at_builtin
               refine wpList_append_rd2 rfl (.tmp 6) (.tmp 7) 95 26 3 rfl w.heap.size 3 _ 1 8 Try.underlying95 Try.underlying26 info_int rfl (by decide) (.slice (some ⟨w.heap.size, 0, none⟩) 1 1) 1 [.int .i64 s] rfl HLIT.out _ A m c (cI zs) rfl HRD.out (cI_one _) (by unfold maxLen; omega) (by omega) (by simp) ?_
               intro v5 w5 hown hgr hat
               obtain ⟨A5, c5, hv5, ho5⟩ := Ow.of_own hown
               subst hv5
               have HO5 : Hid (Ow w5 w.heap.size w5.heap.size 3 1 A5 (1 + m) c5 (cI (s :: zs))) := Lib.hid ho5
               have HB5 : Hid (Below w.heap.size w w5) := Lib.hid (below_grown ((Below.refl _ _).alloc (Nat.le_refl _) _) hgr (fun g e => by simp [Value.ownBlock] at e; omega) (by simp))
               clear hown hgr hat ho5)
  go_ret
  exact ⟨_, _, rfl, HO5.out, HB5.out⟩

set_option maxHeartbeats 1000000 in
theorem i_given1 (b1 : Nat) (A : Option Addr) (n c k : Nat) (cs : List Int) (w : World) (hb1 : w.cell? ⟨b1, 0, none⟩ = some (.slice A n c)) (hl1 : b1 < w.heap.size) (H : Rd w w.heap.size 1 A n (cI cs)) (hn : n ≤ 1048576) (hz : Nums cs) (hk : k < 7) :
    Calls Try.prog 118 #[.int .i64 k, .pointer (some ⟨b1, 0, none⟩)] w fun e w' => e = .returned (.agg #[.int .i64 (shF cs k).1, .int .i64 (shF cs k).2]) ∧ Below w.heap.size w w' := by
  have HB := (Below.refl w.heap.size w).alloc (Nat.le_refl _) (.cells #[.int .i64 0, .int .i64 0] 53)
  have hc1 := (HB.cell (p := ⟨b1, 0, none⟩) hl1).trans hb1
  have HRD := Lib.hid ((H.below HB).more (show w.heap.size ≤ (w.alloc (.cells #[.int .i64 0, .int .i64 0] 53)).heap.size by simp))
  have HBB := Lib.hid HB
  have hn0 : (w.alloc (.cells #[.int .i64 0, .int .i64 0] 53)).cell? ⟨w.heap.size, 0, none⟩ = some (.int .i64 0) := World.cell?_alloc_new w _ _ 0
  have hn1 : (w.alloc (.cells #[.int .i64 0, .int .i64 0] 53)).cell? ⟨w.heap.size, 1, none⟩ = some (.int .i64 0) := World.cell?_alloc_new w _ _ 1
  have hf := fun j => (Ow.new w #[.int .i64 0, .int .i64 0] 53 2 1 rfl).free (by omega) j
  have HNU := Lib.hid hz
  clear H HB hz
  have i0 : (0 : Int) ≤ (k : Int) := by omega
  have i1 : (k : Int) < 7 := by omega
  have hf0 := hf 0
  have hf1 := hf 1
  clear hf
  obtain ⟨W1, HW1⟩ : ∃ W1, Hid (w.alloc (.cells #[.int .i64 0, .int .i64 0] 53) = W1) := ⟨_, Lib.hid rfl⟩
  have HC1 := Lib.hid hc1
  have HN0 := Lib.hid (And.intro hn0 (And.intro hn1 (And.intro hf0 hf1)))
  clear hc1 hn0 hn1 hf0 hf1
  rw [HW1.out] at HC1 HN0 HBB HRD
  go_enter Try.func118, Try.ntmps118
  go_wp2_with fail
  rw [HW1.out]
  clear hb1
  refine (i_polynomial_at _ _ _ _ _ _ HRD.out HNU.out hn (by omega) (by omega)).mono ?_
  rintro e w2 ⟨rfl, q, rfl⟩
  obtain ⟨hn0, hn1, hf0, hf1⟩ := HN0.out
  go_wp2
  refine bodyPost_ret (v := .agg #[.int .i64 ((k : Int) + 1), .int .i64 (atI cs ((k : Int) + 1))]) (by simp [results, Try.results118, go_sem, hn0, hn1]) rfl ⟨rfl, ?_⟩
  exact ((below_drewN HBB.out q).setCell (p := ⟨w.heap.size, 0, none⟩) (Nat.le_refl _) _).setCell (p := ⟨w.heap.size, 1, none⟩) (Nat.le_refl _) _

set_option maxHeartbeats 1000000 in
theorem i_given (A : Option Addr) (n c N : Nat) (cs : List Int) (w : World) (H : Rd w w.heap.size 1 A n (cI cs)) (hn : n ≤ 1048576) (hz : Nums cs) (hN : N ≤ 7) :
    Calls Try.prog 96 #[.slice A n c, .int .i64 N] w fun e w' => ∃ g, e = .returned g ∧ OwPointS w' w.heap.size w'.heap.size g (uptoF (shF cs) N) ∧ Below w.heap.size w w' := by
  obtain ⟨w0, HW0⟩ : ∃ w0, Hid (w.alloc (.cells #[.slice A n c] 95) = w0) := ⟨_, Lib.hid rfl⟩
  have HB0 : Hid (Below w.heap.size w w0) := Lib.hid (HW0.out ▸ (Below.refl _ _).alloc (Nat.le_refl _) _)
  have HZ0 : Hid (w0.heap.size = w.heap.size + 1) := Lib.hid (by rw [← HW0.out]; simp)
  have HRD : Hid (Rd w0 w0.heap.size 1 A n (cI cs)) := Lib.hid ((H.below HB0.out).more (by have := HZ0.out; omega))
  have HC1 : Hid (w0.cell? ⟨w.heap.size, 0, none⟩ = some (.slice A n c)) := Lib.hid (by rw [← HW0.out]; exact (Boxed.new w _ _).cell)
  clear H
  go_enter Try.func96, Try.ntmps96
  go_wp2_with fail
  rw [HW0.out]
  refine (i_listed_given w.heap.size N (by omega) (shF cs) _ (fun W k hW hk => ?_)).mono ?_
  · exact i_given1 w.heap.size A n c k cs W ((hW.cell (p := ⟨w.heap.size, 0, none⟩) (by have := HZ0.out; simp; omega)).trans HC1.out) (by have := HZ0.out; have := hW.size; omega) ((HRD.out.below hW).more hW.size) hn hz (by omega)
  · rintro e w3 ⟨g, rfl, ho, hb3⟩
    have HO := Lib.hid (ho.widen (show w.heap.size ≤ _ by have := HZ0.out; omega) (Nat.le_refl _))
    have HB3 := Lib.hid (HB0.out.trans (hb3.mono (by have := HZ0.out; omega)))
    clear ho hb3
    go_wp2
    go_ret
    exact ⟨_, rfl, HO.out, HB3.out⟩
end Go.Proofs.Ytjpjmlcmaombnaa

/- Chapter 4: SharesOf as the laws meet it. -/
namespace Go.Proofs.Ytjpjmlcmaombnaa
open Go.RowKit Go.Shelf
set_option maxRecDepth 100000

set_option maxHeartbeats 2000000 in
theorem X_s_SharesOf (v : Value) (s n : Int) (d : List Int) (w : World) (h : RdIntS w w.heap.size v d) (hs : szIntS d ≤ 1048576) :
    Calls Try.prog 51 #[.int .i64 s, .int .i64 n, v] w fun e w' => ∃ g, e = .returned (.tuple #[g, .bool (R_SharesOf_1 s n d)]) ∧ OwPointS w' w.heap.size w'.heap.size g (R_SharesOf_0 s n d) ∧ Below w.heap.size w w' := by
  obtain ⟨A, m, c, rfl, hm, r⟩ := h
  have hn : m ≤ 1048576 := by have := r.len; unfold szIntS at hs; omega
  have hl := Lib.hid r.len
  have H := Lib.hid r
  clear r hs hm
  cases h1 : numB s
  · have HF := of_no (s := s) (n := n) (t := d) (by simp [ofB, h1])
    go_enter Try.func51, Try.ntmps51
    go_wp2_with fail
    refine (s_NumOk _ _).mono ?_
    rintro e w1 ⟨rfl, rfl⟩
    rw [h1]
    go_wp2
    go_ret2
    refine ⟨_, ret_vb HF.out.1.symm, ?_, Below.refl _ _⟩
    rw [HF.out.2]; exact OwPointS.nil_ _ _ _
  · cases h2 : numsB d
    · have HF := of_no (s := s) (n := n) (t := d) (by simp [ofB, h2])
      go_enter Try.func51, Try.ntmps51
      go_wp2_with fail
      refine (s_NumOk _ _).mono ?_
      rintro e w1 ⟨rfl, rfl⟩
      rw [h1]
      go_wp2_with fail
      refine (s_l1In _ _ _ _ _ H.out hn).mono ?_
      rintro e w1 ⟨rfl, rfl⟩
      rw [h2]
      go_wp2
      go_ret2
      refine ⟨_, ret_vb HF.out.1.symm, ?_, Below.refl _ _⟩
      rw [HF.out.2]; exact OwPointS.nil_ _ _ _
    · by_cases h3 : 1 ≤ n ∧ n ≤ 7
      · obtain ⟨N, rfl⟩ := Int.eq_ofNat_of_zero_le (show 0 ≤ n by omega)
        have HI := Lib.hid (inB_t h3)
        have hs1 := Lib.hid ((numB_iff s).1 h1)
        have hd1 := Lib.hid (nums_of_B h2)
        by_cases h4 : m < N
        · have HX : Hid (ofB s N d = true) := Lib.hid (by
            unfold ofB; rw [h1, h2, HI.out, hl.out, decide_eq_true (by omega)]; rfl)
          have HF1 : Hid (R_SharesOf_1 s N d = true) := Lib.hid HX.out
          have HF2 : Hid (R_SharesOf_0 s N d = uptoF (shF (s :: d)) N) := Lib.hid (by unfold R_SharesOf_0; rw [if_pos HX.out]; rfl)
          have HN7 : Hid (N ≤ 7) := Lib.hid (by omega)
          have HM : Hid (m ≤ 1000) := Lib.hid (by omega)
          have h5 : ¬ ((N : Int) ≤ (m : Int)) := by omega
          have h6 : (m : Int) < (N : Int) := by omega
          clear h3
          go_enter Try.func51, Try.ntmps51
          go_wp2_with fail
          refine (s_NumOk _ _).mono ?_
          rintro e w1 ⟨rfl, rfl⟩
          rw [h1]
          go_wp2_with fail
          refine (s_l1In _ _ _ _ _ H.out hn).mono ?_
          rintro e w1 ⟨rfl, rfl⟩
          rw [h2]
          clear h1 h2
          go_wp2_with fail
          refine (s_l6In _ _ _ _).mono ?_
          rintro e w1 ⟨rfl, rfl⟩
          rw [HI.out]
          go_wp2_with fail
          refine (s_l4Of _ _ _ _ _ _ _ H.out HM.out HN7.out hs1.out hd1.out).mono ?_
          rintro e w2 ⟨g, rfl, ho, hb⟩
          have HO := Lib.hid ho
          have HB := Lib.hid hb
          clear ho hb
          go_wp2
          go_ret2
          exact ⟨_, ret_vb HF1.out.symm, by rw [HF2.out]; exact HO.out, HB.out⟩
        · have HF := of_no (s := s) (n := N) (t := d) (by unfold ofB; rw [hl.out, decide_eq_false (by omega)]; simp)
          have h5 : (N : Int) ≤ (m : Int) := by omega
          clear h3
          go_enter Try.func51, Try.ntmps51
          go_wp2_with fail
          refine (s_NumOk _ _).mono ?_
          rintro e w1 ⟨rfl, rfl⟩
          rw [h1]
          go_wp2_with fail
          refine (s_l1In _ _ _ _ _ H.out hn).mono ?_
          rintro e w1 ⟨rfl, rfl⟩
          rw [h2]
          clear h1 h2
          go_wp2_with fail
          refine (s_l6In _ _ _ _).mono ?_
          rintro e w1 ⟨rfl, rfl⟩
          rw [HI.out]
          go_wp2
          go_ret2
          refine ⟨_, ret_vb HF.out.1.symm, ?_, Below.refl _ _⟩
          rw [HF.out.2]; exact OwPointS.nil_ _ _ _
      · have HI := Lib.hid (inB_f h3)
        have HF := of_no (s := s) (n := n) (t := d) (by unfold ofB; rw [HI.out]; simp)
        clear h3
        go_enter Try.func51, Try.ntmps51
        go_wp2_with fail
        refine (s_NumOk _ _).mono ?_
        rintro e w1 ⟨rfl, rfl⟩
        rw [h1]
        go_wp2_with fail
        refine (s_l1In _ _ _ _ _ H.out hn).mono ?_
        rintro e w1 ⟨rfl, rfl⟩
        rw [h2]
        clear h1 h2
        go_wp2_with fail
        refine (s_l6In _ _ _ _).mono ?_
        rintro e w1 ⟨rfl, rfl⟩
        rw [HI.out]
        go_wp2
        go_ret2
        refine ⟨_, ret_vb HF.out.1.symm, ?_, Below.refl _ _⟩
        rw [HF.out.2]; exact OwPointS.nil_ _ _ _

set_option maxHeartbeats 2000000 in
theorem X_i_SharesOf (v : Value) (s n : Int) (d : List Int) (w : World) (h : RdIntS w w.heap.size v d) (hs : szIntS d ≤ 1048576) :
    Calls Try.prog 50 #[.int .i64 s, .int .i64 n, v] w fun e w' => ∃ g, e = .returned (.tuple #[g, .bool (R_SharesOf_1 s n d)]) ∧ OwPointS w' w.heap.size w'.heap.size g (R_SharesOf_0 s n d) ∧ Below w.heap.size w w' := by
  obtain ⟨A, m, c, rfl, hm, r⟩ := h
  have hn : m ≤ 1048576 := by have := r.len; unfold szIntS at hs; omega
  have hl := Lib.hid r.len
  have H := Lib.hid r
  clear r hs hm
  cases h1 : numB s
  · have HF := of_no (s := s) (n := n) (t := d) (by simp [ofB, h1])
    go_enter Try.func50, Try.ntmps50
    go_wp2_with fail
    refine (i_NumOk _ _).mono ?_
    rintro e w1 ⟨rfl, rfl⟩
    rw [h1]
    go_wp2
    go_ret2
    refine ⟨_, ret_vb HF.out.1.symm, ?_, Below.refl _ _⟩
    rw [HF.out.2]; exact OwPointS.nil_ _ _ _
  · cases h2 : numsB d
    · have HF := of_no (s := s) (n := n) (t := d) (by simp [ofB, h2])
      go_enter Try.func50, Try.ntmps50
      go_wp2_with fail
      refine (i_NumOk _ _).mono ?_
      rintro e w1 ⟨rfl, rfl⟩
      rw [h1]
      go_wp2_with fail
      refine (i_numbersOk _ _ _ _ _ H.out hn).mono ?_
      rintro e w1 ⟨rfl, rfl⟩
      rw [h2]
      go_wp2
      go_ret2
      refine ⟨_, ret_vb HF.out.1.symm, ?_, Below.refl _ _⟩
      rw [HF.out.2]; exact OwPointS.nil_ _ _ _
    · by_cases h3 : (1 ≤ n ∧ n ≤ 7) ∧ (m : Int) < n
      · obtain ⟨⟨h31, h37⟩, h4⟩ := h3
        obtain ⟨N, rfl⟩ := Int.eq_ofNat_of_zero_le (show 0 ≤ n by omega)
        have HX : Hid (ofB s N d = true) := Lib.hid (by
          unfold ofB; rw [h1, h2, inB_t ⟨h31, h37⟩, hl.out, decide_eq_true h4]; rfl)
        have hs1 := Lib.hid ((numB_iff s).1 h1)
        have hd1 := Lib.hid (nums_of_B h2)
        have HF1 : Hid (R_SharesOf_1 s N d = true) := Lib.hid HX.out
        have HF2 : Hid (R_SharesOf_0 s N d = uptoF (shF (s :: d)) N) := Lib.hid (by unfold R_SharesOf_0; rw [if_pos HX.out]; rfl)
        have HN7 : Hid (N ≤ 7) := Lib.hid (by omega)
        have HM : Hid (m ≤ 1000) := Lib.hid (by omega)
        go_enter Try.func50, Try.ntmps50
        go_wp2_with fail
        refine (i_NumOk _ _).mono ?_
        rintro e w1 ⟨rfl, rfl⟩
        rw [h1]
        go_wp2_with fail
        refine (i_numbersOk _ _ _ _ _ H.out hn).mono ?_
        rintro e w1 ⟨rfl, rfl⟩
        rw [h2]
        clear h1 h2
        go_wp2_with fail
        refine (i_secretWith _ _ _ _ _ _ H.out HM.out).mono ?_
        rintro e w2 ⟨A2, c2, rfl, ho, hb⟩
        have HRD := Lib.hid ho.rd
        have HB2 := Lib.hid hb
        clear ho hb
        go_wp2_with fail
        refine (i_given _ _ _ _ _ _ HRD.out (by have := HM.out; omega) (nums_cons hs1.out hd1.out) HN7.out).mono ?_
        rintro e w3 ⟨g, rfl, ho, hb⟩
        have HO := Lib.hid (ho.widen HB2.out.size (Nat.le_refl _))
        have HB3 := Lib.hid (HB2.out.trans (hb.mono HB2.out.size))
        clear ho hb
        go_wp2
        go_ret2
        exact ⟨_, ret_vb HF1.out.symm, by rw [HF2.out]; exact HO.out, HB3.out⟩
      · have HF := of_no (s := s) (n := n) (t := d) (by
          unfold ofB
          by_cases h5 : 1 ≤ n ∧ n ≤ 7
          · rw [hl.out, decide_eq_false (fun h => h3 ⟨h5, h⟩)]; simp
          · rw [inB_f h5]; simp)
        have h5 : n < 1 ∨ 7 < n ∨ n ≤ (m : Int) := by omega
        clear h3
        by_cases k1 : n < 1
        all_goals by_cases k2 : 7 < n
        all_goals
          go_enter Try.func50, Try.ntmps50
          go_wp2_with fail
          refine (i_NumOk _ _).mono ?_
          rintro e w1 ⟨rfl, rfl⟩
          rw [h1]
          go_wp2_with fail
          refine (i_numbersOk _ _ _ _ _ H.out hn).mono ?_
          rintro e w1 ⟨rfl, rfl⟩
          rw [h2]
          go_wp2
          all_goals first
            | (go_ret2
               refine ⟨_, ret_vb HF.out.1.symm, ?_, Below.refl _ _⟩
               rw [HF.out.2]; exact OwPointS.nil_ _ _ _)
            | (exfalso; omega)
end Go.Proofs.Ytjpjmlcmaombnaa

/- P26: what SharesExplain tells gives just these shares. -/
namespace Go.Proofs.Ytjpjmlcmaombnaa
open Go.RowKit
set_option maxRecDepth 100000

theorem expl_at {s : Int} {d : List (Int × Int)} (h : R_SharesExplain_1 s d = true) (i : Nat) (hi : i < d.length) :
    (1 ≤ px d i ∧ px d i ≤ 7) ∧ atI (s :: expL s d) (px d i) = py d i := by
  simp only [R_SharesExplain_1, expB, Bool.and_eq_true, decide_eq_true_eq] at h
  obtain ⟨hs, h6, hsh⟩ := h
  have hG := exp_good hs hsh h6
  have hsr := (numB_iff s).1 hs
  have hT := (thrS_at hG (1 + d.length) (Nat.le_refl _)).1
  have hN := thrS_nums ((0, s) :: d) (1 + d.length) (1 + d.length)
  have hL := thrS_len ((0, s) :: d) (1 + d.length) (1 + d.length) (Nat.le_refl _)
  have hx : 1 ≤ px d i ∧ px d i ≤ 7 := by
    simp only [shB, Bool.and_eq_true] at hsh
    exact xsK_at hsh.2 hi
  refine ⟨hx, ?_⟩
  have h0 : (thrS ((0, s) :: d) (1 + d.length) (1 + d.length)).getD 0 0 = s := by
    have := hT 0 (by omega)
    rw [show px ((0, s) :: d) 0 = 0 from rfl, show py ((0, s) :: d) 0 = s from rfl] at this
    have hz : sv (thrS ((0, s) :: d) (1 + d.length) (1 + d.length)) 0 = (thrS ((0, s) :: d) (1 + d.length) (1 + d.length)).getD 0 0 := by
      cases thrS ((0, s) :: d) (1 + d.length) (1 + d.length) with
      | nil => rfl
      | cons a l => simp [sv]
    rw [hz] at this
    have := hN 0
    omega
  have he : ∀ j, (s :: expL s d).getD j 0 = (thrS ((0, s) :: d) (1 + d.length) (1 + d.length)).getD j 0 := fun j => by
    cases j with
    | zero => rw [h0]; rfl
    | succ j =>
      by_cases hj : j < d.length
      · rw [← expL_get s d j hj]; rfl
      · rw [show (s :: expL s d).getD (j + 1) 0 = (expL s d).getD j 0 from rfl]
        rw [List.getD_eq_getElem?_getD, List.getD_eq_getElem?_getD, List.getElem?_eq_none (by rw [expL_length]; omega), List.getElem?_eq_none (by omega)]
  have hp := hT (i + 1) (by omega)
  rw [show px ((0, s) :: d) (i + 1) = px d i by simp [px], show py ((0, s) :: d) (i + 1) = py d i by simp [py]] at hp
  rw [atI_sv, sv_ext _ _ he, hp]
theorem expl_nums {s : Int} {d : List (Int × Int)} (h : R_SharesExplain_1 s d = true) : R_SharesOf_1 s 7 (expL s d) = true ∧ d.length ≤ 6 := by
  simp only [R_SharesExplain_1, expB, Bool.and_eq_true, decide_eq_true_eq] at h
  obtain ⟨hs, h6, hsh⟩ := h
  have hN := thrS_nums ((0, s) :: d) (1 + d.length) (1 + d.length)
  refine ⟨?_, h6⟩
  unfold R_SharesOf_1 ofB
  rw [hs, inB_t ⟨by omega, by omega⟩, expL_length, decide_eq_true (by omega)]
  have : numsB (expL s d) = true := by
    unfold numsB
    rw [List.all_eq_true]
    intro z hz
    simp only [expL, List.mem_map, List.mem_range] at hz
    obtain ⟨j, _, rfl⟩ := hz
    exact (numB_iff _).2 (hN (j + 1))
  rw [this]; rfl

set_option maxHeartbeats 1000000 in
theorem u_uvInts (A A' : Option Addr) (n c c' : Nat) (d : List Int) (w : World) (h : Rd w w.heap.size 1 A n (cI d)) (h' : Rd w w.heap.size 1 A' n (cI d)) (hn : n ≤ 1048576) :
    Calls Try.prog 55 #[.slice A n c, .slice A' n c'] w fun e w' => e = .returned (.bool true) ∧ Below w.heap.size w w' := by
  have H := Lib.hid h
  have H' := Lib.hid h'
  clear h h'
  go_enter Try.func55, Try.ntmps55
  go_wp2
  go_loopw [5] (fun i wr => ∃ k m : Nat, k ≤ n ∧ i = .int .i64 k ∧ wr = w.drewN m) (fun i _ => n - (intOf i).toNat)
  case atStart => exact ⟨0, 0, Nat.zero_le _, rfl, rfl⟩
  case round =>
    obtain ⟨k, m, hk, rfl, rfl⟩ := hrel
    by_cases hlt : k < n
    · obtain ⟨a, x, rfl, hab, hx, HP⟩ := H.out.intAt hlt
      obtain ⟨a', x', rfl, hab', hx', HP'⟩ := H'.out.intAt hlt
      obtain rfl : x' = x := by rw [HP.out, HP'.out]
      have i0 : (0 : Int) ≤ (k : Int) := by omega
      have i1 : (k : Int) < (n : Int) := by omega
      clear HP HP'
      go_wp2
      go_quiet (fail)
      go_wp2
      go_roundw
      case rel => exact ⟨k + 1, _, by omega, by go_num, rfl⟩
      case measure => simp [intOf] <;> omega
    · go_wp2
      go_ret
      exact ⟨rfl, below_drewN (Below.refl _ _) _⟩
end Go.Proofs.Ytjpjmlcmaombnaa

/- P29: who sees fewer shares than the bound sees what another secret would give, too: the mathematics. -/
namespace Go.Proofs.Ytjpjmlcmaombnaa
open Go.RowKit
set_option maxRecDepth 100000

theorem okK_of {ps : List (Int × Int)} {n : Nat} (h : Good ps n) : okK ps n = true := by
  have go : ∀ k, k ≤ n → okK ps k = true := fun k => by
    induction k with
    | zero => intro _; rfl
    | succ k ih =>
      intro hk
      rw [okK_step, ih (by omega), (numB_iff _).2 (h.x0 k (by omega)), (numB_iff _).2 (h.y0 k (by omega))]
      have : seenB ps k (px ps k) = false := by
        apply Bool.eq_false_iff.2
        intro ht
        obtain ⟨i, hi, he⟩ := (seenB_iff ps k _).1 ht
        exact h.ne i k (by omega) (by omega) (by omega) he
      rw [this]; rfl
  exact go n (Nat.le_refl _)
theorem xsK_of {ps : List (Int × Int)} {top : Int} {n : Nat} (h : ∀ i, i < n → 1 ≤ px ps i ∧ px ps i ≤ top) : xsK ps top n = true := by
  have go : ∀ k, k ≤ n → xsK ps top k = true := fun k => by
    induction k with
    | zero => intro _; rfl
    | succ k ih =>
      intro hk
      have := h k (by omega)
      rw [xsK, ih (by omega), decide_eq_true this.1, decide_eq_true this.2]; rfl
  exact go n (Nat.le_refl _)
theorem uptoF_getD (f : Nat → Int × Int) {k i : Nat} (h : i < k) : (uptoF f k).getD i (0, 0) = f i := by simp [uptoF, h]
theorem uptoF_take (f : Nat → Int × Int) {k m : Nat} (h : m ≤ k) : (uptoF f k).take m = uptoF f m := by
  simp [uptoF, ← List.map_take, List.take_range, Nat.min_eq_left h]
theorem upto_px (cs : List Int) {k i : Nat} (h : i < k) : px (uptoF (shF cs) k) i = (i : Int) + 1 := by unfold px; rw [uptoF_getD _ h]; rfl
theorem upto_py (cs : List Int) {k i : Nat} (h : i < k) : py (uptoF (shF cs) k) i = atI cs ((i : Int) + 1) := by unfold py; rw [uptoF_getD _ h]; rfl
theorem upto_good (cs : List Int) {k : Nat} (h : k ≤ 7) : Good (uptoF (shF cs) k) k where
  x0 i hi := by rw [upto_px cs hi]; omega
  y0 i hi := by rw [upto_py cs hi]; exact ⟨atI_lo _ _, atI_hi _ _⟩
  ne i j hi hj hne := by rw [upto_px cs hi, upto_px cs hj]; omega
theorem upto_sh (cs : List Int) {k : Nat} (h : k ≤ 7) : shB (uptoF (shF cs) k) 7 = true := by
  unfold shB ptsB
  rw [uptoF_length, okK_of (upto_good cs h), xsK_of (fun i hi => by rw [upto_px cs hi]; omega), decide_eq_true (show k ≤ 20 by omega)]; rfl
theorem nums_consE {s : Int} {t : List Int} (hs : numB s = true) (ht : Nums t) : Nums (s :: t) := nums_cons ((numB_iff s).1 hs) ht
theorem numsB_nums {t : List Int} (h : numsB t = true) : Nums t := fun j => by
  by_cases hj : j < t.length
  · have := List.all_eq_true.1 h t[j] (List.getElem_mem hj)
    rw [getD_of t j hj]; exact (numB_iff _).1 this
  · rw [getD_out t j (by omega)]; omega
theorem ofB_parts {s N : Int} {t : List Int} (h : ofB s N t = true) : numB s = true ∧ Nums t ∧ (1 ≤ N ∧ N ≤ 7) ∧ (t.length : Int) < N := by
  simp only [ofB, Bool.and_eq_true, decide_eq_true_eq, inB] at h
  exact ⟨h.1, numsB_nums h.2.1, h.2.2.1, h.2.2.2⟩
theorem back_ok {s N : Int} {t : List Int} (h : ofB s N t = true) : R_SharesExplain_1 s (uptoF (shF (s :: t)) t.length) = true := by
  obtain ⟨h1, h2, h3, h4⟩ := ofB_parts h
  unfold R_SharesExplain_1 expB
  rw [h1, uptoF_length, decide_eq_true (show t.length ≤ 6 by omega), upto_sh _ (by omega)]; rfl
/-- the tape comes back -/
theorem back_is {s N : Int} {t : List Int} (h : ofB s N t = true) : R_SharesExplain_0 s (uptoF (shF (s :: t)) t.length) = t := by
  have hb := back_ok h
  obtain ⟨h1, h2, h3, h4⟩ := ofB_parts h
  have ha := fun i hi => (expl_at hb i hi).2
  rw [uptoF_length] at ha
  unfold R_SharesExplain_0
  rw [if_pos (show expB s (uptoF (shF (s :: t)) t.length) = true from hb)]
  have hen := expl_nums hb
  obtain ⟨_, hn, _, _⟩ := ofB_parts (show ofB s 7 _ = true from hen.1)
  have hl : (expL s (uptoF (shF (s :: t)) t.length)).length = t.length := by rw [expL_length, uptoF_length]
  generalize expL s (uptoF (shF (s :: t)) t.length) = u at *
  have hj := one_through ((List.range (t.length + 1)).map fun i : Nat => (i : Int)) (s :: u) (s :: t) (nums_consE h1 hn) (nums_consE h1 h2) (by simp [hl]) (by simp)
    (List.pairwise_iff_getElem.2 fun i j hi hj hlt => by simp at hi hj ⊢; omega)
    (fun x hx => by
      simp only [List.mem_map, List.mem_range] at hx
      obtain ⟨i, hi, rfl⟩ := hx
      cases i with
      | zero =>
        have e : ∀ l : List Int, atI (s :: l) ((0 : Nat) : Int) = s % 113 := fun l => by rw [atI_sv]; simp [sv]
        rw [e, e]
      | succ i =>
        have := ha i (by omega)
        rw [upto_px _ (by omega), upto_py _ (by omega)] at this
        exact_mod_cast this)
  refine List.ext_getElem hl fun j h5 h6 => ?_
  have := hj (j + 1)
  simpa [List.getD_eq_getElem?_getD, h5, h6] using this
/-- another secret gives the same shares with the tape that is explained -/
theorem other_ok {o N s : Int} {t : List Int} (h : ofB s N t = true) (ho : R_SharesExplain_1 o (uptoF (shF (s :: t)) t.length) = true) :
    ofB o N (expL o (uptoF (shF (s :: t)) t.length)) = true ∧ uptoF (shF (o :: expL o (uptoF (shF (s :: t)) t.length))) t.length = uptoF (shF (s :: t)) t.length := by
  obtain ⟨h1, h2, h3, h4⟩ := ofB_parts h
  constructor
  · have hen := (expl_nums ho).1
    unfold R_SharesOf_1 ofB at hen
    simp only [Bool.and_eq_true, decide_eq_true_eq] at hen
    unfold ofB
    rw [hen.1, hen.2.1, inB_t h3, expL_length, uptoF_length, decide_eq_true h4]; rfl
  · have ha := fun i hi => (expl_at ho i hi).2
    rw [uptoF_length] at ha
    generalize expL o (uptoF (shF (s :: t)) t.length) = u at *
    refine List.ext_getElem (by simp [uptoF_length]) fun i h5 h6 => ?_
    have hi : i < t.length := by simpa [uptoF_length] using h5
    have ha := ha i hi
    rw [upto_px _ hi, upto_py _ hi] at ha
    simp only [uptoF, List.getElem_map, List.getElem_range, shF]
    rw [ha]
end Go.Proofs.Ytjpjmlcmaombnaa

/- P29, P33: what SharesOf is asked; points and numbers compared, quietly; a list of points cut. -/
namespace Go.Proofs.Ytjpjmlcmaombnaa
open Go.RowKit
set_option maxRecDepth 100000

theorem quiet_ex {P : Program} {f : FuncId} {args : Array Value} {w : World} {a : Nat} {v : Value} (h : Calls P f args (w.drewN a) fun e w' => e = .returned v ∧ ∃ m, w' = (w.drewN a).drewN m) : Calls P f args (w.drewN a) fun e w'' => e = .returned v ∧ ∃ m, w'' = w.drewN m :=
  h.mono fun _ _ ⟨he, m, hm⟩ => ⟨he, a + m, by rw [hm, World.drewN_drewN]⟩
theorem Rd.headP {w : World} {hi n k : Nat} {A : Option Addr} {ps : List (Int × Int)} (h : Rd w hi 2 A n (cP ps)) (hk : k ≤ n) : Rd w hi 2 A k (cP (ps.take k)) := by
  have hl := h.plen
  refine ⟨by rw [cP_length, List.length_take]; omega, fun h0 => ?_⟩
  obtain ⟨a, e, hb, hc⟩ := h.2 (by omega)
  refine ⟨a, e, hb, fun j u hj => hc j u ?_⟩
  rw [← hj, show ps = ps.take k ++ ps.drop k from (List.take_append_drop k ps).symm, cP_append]
  have hjk : j < (cP (ps.take k)).length := by
    have := (List.getElem?_eq_some_iff.1 hj).1
    simpa using this
  rw [List.getElem?_append_left hjk]
  simp
set_option maxHeartbeats 1000000 in
theorem d_DrawSharesOf (A : Option Addr) (n c : Nat) (bs : List Int) (w : World) (h : Rd w w.heap.size 1 A n (cU bs)) (hb : Byt bs) (hn : n ≤ 1048576) (hc : n ≤ c) :
    Calls Try.prog 49 #[.slice A n c] w fun e w' => ∃ s N v d, e = .returned (.tuple #[.int .i64 s, .int .i64 N, v]) ∧ (-1 ≤ N ∧ N ≤ 8) ∧ OwIntS w' w.heap.size w'.heap.size v d ∧ d.length ≤ 6 ∧ Below w.heap.size w w' := by
  have H := Lib.hid h
  clear h
  go_enter Try.func49, Try.ntmps49
  go_wp2_with fail
  refine (d_l6Open _ _ _ _ _ H.out hb hn hc).mono ?_
  rintro e w1 ⟨rfl, ⟨A', n', c', bs', h1⟩, hb1⟩
  have H1 := Lib.hid h1
  have B1 := Lib.hid hb1
  clear h1 hb1
  go_wp2_with fail
  refine (d_l91SharesOf _ _ _ _ _ _ _ _ H1.out (by omega)).mono ?_
  rintro e w2 ⟨s, N, v, d, q, rfl, hs, hN, ho, hd, hq, h2, k2⟩
  have B2 : Hid (Below w.heap.size w w2) := Lib.hid (B1.out.trans (k2.to_below B1.out.size))
  have HO : Hid (OwIntS w2 w.heap.size w2.heap.size v d) := Lib.hid (ho.widen B1.out.size (Nat.le_refl _))
  clear h2 k2 ho
  go_wp2
  go_ret3
  exact ⟨_, _, _, _, rfl, hN, HO.out, hd, B2.out⟩
set_option maxHeartbeats 1000000 in
theorem u_uvPoints (A A' : Option Addr) (n c c' : Nat) (d : List (Int × Int)) (w : World) (h : Rd w w.heap.size 2 A n (cP d)) (h' : Rd w w.heap.size 2 A' n (cP d)) (hn : n ≤ 1048576) :
    Calls Try.prog 52 #[.slice A n c, .slice A' n c'] w fun e w' => e = .returned (.bool true) ∧ ∃ m, w' = w.drewN m := by
  have H := Lib.hid h
  have H' := Lib.hid h'
  clear h h'
  go_enter Try.func52, Try.ntmps52
  go_wp2
  go_loopw [5] (fun i wr => ∃ k m : Nat, k ≤ n ∧ i = .int .i64 k ∧ wr = w.drewN m) (fun i _ => n - (intOf i).toNat)
  case atStart => exact ⟨0, 0, Nat.zero_le _, rfl, rfl⟩
  case round =>
    obtain ⟨k, m, hk, rfl, rfl⟩ := hrel
    by_cases hlt : k < n
    · obtain ⟨a, x, y, rfl, hab, hx, hy, HP⟩ := H.out.ptAt hlt
      obtain ⟨a', x', y', rfl, hab', hx', hy', HP'⟩ := H'.out.ptAt hlt
      obtain ⟨rfl, rfl⟩ : x' = x ∧ y' = y := by have := HP.out.symm.trans HP'.out; injection this with p1 p2; exact ⟨p1.symm, p2.symm⟩
      have i0 : (0 : Int) ≤ (k : Int) := by omega
      have i1 : (k : Int) < (n : Int) := by omega
      clear HP HP'
      go_wp2
      go_quiet (fail)
      go_wp2
      go_roundw
      case rel => exact ⟨k + 1, _, by omega, by go_num, rfl⟩
      case measure => simp [intOf] <;> omega
    · go_wp2
      go_ret
      exact ⟨rfl, _, rfl⟩
set_option maxHeartbeats 1000000 in
theorem u_uvIntsQ (A A' : Option Addr) (n c c' : Nat) (d : List Int) (w : World) (h : Rd w w.heap.size 1 A n (cI d)) (h' : Rd w w.heap.size 1 A' n (cI d)) (hn : n ≤ 1048576) :
    Calls Try.prog 55 #[.slice A n c, .slice A' n c'] w fun e w' => e = .returned (.bool true) ∧ ∃ m, w' = w.drewN m := by
  have H := Lib.hid h
  have H' := Lib.hid h'
  clear h h'
  go_enter Try.func55, Try.ntmps55
  go_wp2
  go_loopw [5] (fun i wr => ∃ k m : Nat, k ≤ n ∧ i = .int .i64 k ∧ wr = w.drewN m) (fun i _ => n - (intOf i).toNat)
  case atStart => exact ⟨0, 0, Nat.zero_le _, rfl, rfl⟩
  case round =>
    obtain ⟨k, m, hk, rfl, rfl⟩ := hrel
    by_cases hlt : k < n
    · obtain ⟨a, x, rfl, hab, hx, HP⟩ := H.out.intAt hlt
      obtain ⟨a', x', rfl, hab', hx', HP'⟩ := H'.out.intAt hlt
      obtain rfl : x' = x := by rw [HP.out, HP'.out]
      have i0 : (0 : Int) ≤ (k : Int) := by omega
      have i1 : (k : Int) < (n : Int) := by omega
      clear HP HP'
      go_wp2
      go_quiet (fail)
      go_wp2
      go_roundw
      case rel => exact ⟨k + 1, _, by omega, by go_num, rfl⟩
      case measure => simp [intOf] <;> omega
    · go_wp2
      go_ret
      exact ⟨rfl, _, rfl⟩
end Go.Proofs.Ytjpjmlcmaombnaa

/- Chapter 5: MendMost; which shares differ from a polynomial (l5Wrong, differing); SharesWrong. -/
namespace Go.Proofs.Ytjpjmlcmaombnaa
open Go.RowKit
set_option maxRecDepth 100000

def mostI (n b : Int) : Int := if 1 ≤ n ∧ n ≤ 7 ∧ 0 ≤ b ∧ b < n then (n - b - 1) / 2 else -1
theorem mostI_no {n b : Int} (h : ¬ (1 ≤ n ∧ n ≤ 7 ∧ 0 ≤ b ∧ b < n)) : mostI n b = -1 := by unfold mostI; rw [if_neg h]
theorem mostI_yes {n b : Int} (h : 1 ≤ n ∧ n ≤ 7 ∧ 0 ≤ b ∧ b < n) : mostI n b = (n - b - 1) / 2 := by unfold mostI; rw [if_pos h]

set_option maxHeartbeats 400000 in
theorem s_MendMost (n b : Int) (w : World) :
    Calls Try.prog 20 #[.int .i64 n, .int .i64 b] w fun e w' => e = .returned (.int .i64 (mostI n b)) ∧ w = w' := by
  cases h1 : inB n 1 7
  · have HF : Hid (mostI n b = -1) := Lib.hid (mostI_no fun h => by rw [inB_t ⟨h.1, h.2.1⟩] at h1; cases h1)
    go_enter Try.func20, Try.ntmps20
    go_wp2_with fail
    refine (s_l6In _ _ _ _).mono ?_
    rintro e w1 ⟨rfl, rfl⟩
    rw [h1]
    go_wp2
    go_ret
    exact ⟨ret_i HF.out.symm, rfl⟩
  · obtain ⟨n1, n7⟩ := inB_iff.1 h1
    cases h2 : inB b 0 (n - 1)
    · have HF : Hid (mostI n b = -1) := Lib.hid (mostI_no fun h => by rw [inB_t ⟨h.2.2.1, by omega⟩] at h2; cases h2)
      go_enter Try.func20, Try.ntmps20
      go_wp2_with fail
      refine (s_l6In _ _ _ _).mono ?_
      rintro e w1 ⟨rfl, rfl⟩
      rw [h1]
      go_wp2_with fail
      refine (s_l6In _ _ _ _).mono ?_
      rintro e w1 ⟨rfl, rfl⟩
      rw [h2]
      go_wp2
      go_ret
      exact ⟨ret_i HF.out.symm, rfl⟩
    · obtain ⟨b0, b1⟩ := inB_iff.1 h2
      have HF : Hid (mostI n b = (n - b - 1) / 2) := Lib.hid (mostI_yes ⟨n1, n7, b0, by omega⟩)
      go_enter Try.func20, Try.ntmps20
      go_wp2_with fail
      refine (s_l6In _ _ _ _).mono ?_
      rintro e w1 ⟨rfl, rfl⟩
      rw [h1]
      go_wp2_with fail
      refine (s_l6In _ _ _ _).mono ?_
      rintro e w1 ⟨rfl, rfl⟩
      rw [h2]
      go_wp2
      go_ret
      exact ⟨ret_i HF.out.symm, rfl⟩

set_option maxHeartbeats 400000 in
theorem i_MendMost (n b : Int) (w : World) :
    Calls Try.prog 21 #[.int .i64 n, .int .i64 b] w fun e w' => e = .returned (.int .i64 (mostI n b)) ∧ w = w' := by
  by_cases h1 : n < 1
  · have HF : Hid (mostI n b = -1) := Lib.hid (mostI_no (by omega))
    go_enter Try.func21, Try.ntmps21
    go_wp2
    go_ret
    exact ⟨ret_i HF.out.symm, rfl⟩
  by_cases h2 : 7 < n
  · have HF : Hid (mostI n b = -1) := Lib.hid (mostI_no (by omega))
    go_enter Try.func21, Try.ntmps21
    go_wp2
    go_ret
    exact ⟨ret_i HF.out.symm, rfl⟩
  by_cases h3 : b < 0
  · have HF : Hid (mostI n b = -1) := Lib.hid (mostI_no (by omega))
    go_enter Try.func21, Try.ntmps21
    go_wp2
    go_ret
    exact ⟨ret_i HF.out.symm, rfl⟩
  by_cases h4 : n ≤ b
  · have HF : Hid (mostI n b = -1) := Lib.hid (mostI_no (by omega))
    go_enter Try.func21, Try.ntmps21
    go_wp2
    go_ret
    exact ⟨ret_i HF.out.symm, rfl⟩
  have HF : Hid (mostI n b = (n - b - 1) / 2) := Lib.hid (mostI_yes (by omega))
  have n1 : 1 ≤ n := by omega
  have n7 : n ≤ 7 := by omega
  have b0 : 0 ≤ b := by omega
  have b1 : b < n := by omega
  go_enter Try.func21, Try.ntmps21
  go_wp2
  go_ret
  exact ⟨ret_i HF.out.symm, rfl⟩

theorem X_s_MendMost (n b : Int) (w : World) :
    Calls Try.prog 20 #[.int .i64 n, .int .i64 b] w fun e w' => e = .returned (.int .i64 (mostI n b)) ∧ Below w.heap.size w w' :=
  (s_MendMost n b w).mono fun _ _ ⟨he, hw⟩ => ⟨he, by subst hw; exact Below.refl _ _⟩
theorem X_i_MendMost (n b : Int) (w : World) :
    Calls Try.prog 21 #[.int .i64 n, .int .i64 b] w fun e w' => e = .returned (.int .i64 (mostI n b)) ∧ Below w.heap.size w w' :=
  (i_MendMost n b w).mono fun _ _ ⟨he, hw⟩ => ⟨he, by subst hw; exact Below.refl _ _⟩

/-- the X of the first k points that differ from a polynomial -/
def wrK (p : List Int) (ps : List (Int × Int)) : Nat → List Int
  | 0 => []
  | k + 1 => if atI p (px ps k) = py ps k then wrK p ps k else wrK p ps k ++ [px ps k]
theorem wrK_le (p : List Int) (ps : List (Int × Int)) (k : Nat) : (wrK p ps k).length ≤ k := by
  induction k with
  | zero => simp [wrK]
  | succ k ih =>
    simp only [wrK]
    split
    · omega
    · simp; omega
theorem wrK_in {p : List Int} {ps : List (Int × Int)} {k : Nat} {x y : Int} (hp : ps.getD k (0, 0) = (x, y)) (h : atI p x = y) : wrK p ps (k + 1) = wrK p ps k := by
  rw [wrK, if_pos (by rw [(pxy hp).1, (pxy hp).2]; exact h)]
theorem wrK_out {p : List Int} {ps : List (Int × Int)} {k : Nat} {x y : Int} (hp : ps.getD k (0, 0) = (x, y)) (h : atI p x ≠ y) : wrK p ps (k + 1) = wrK p ps k ++ [x] := by
  rw [wrK, if_neg (by rw [(pxy hp).1, (pxy hp).2]; exact h), (pxy hp).1]
def XIn (ps : List (Int × Int)) (n : Nat) : Prop := ∀ k, k < n → 0 ≤ px ps k ∧ px ps k ≤ 112

set_option maxHeartbeats 2000000 in
theorem s_l5Wrong (A A' : Option Addr) (n c m c' : Nat) (zs : List Int) (ps : List (Int × Int)) (w : World) (h : Rd w w.heap.size 1 A n (cI zs)) (hN : Nums zs) (hn : n ≤ 1048576)
    (h' : Rd w w.heap.size 2 A' m (cP ps)) (hX : XIn ps m) (hm : m ≤ 1048576) :
    Calls Try.prog 65 #[.slice A n c, .slice A' m c'] w fun e w' => ∃ v, e = .returned v ∧ OwIntS w' w.heap.size w'.heap.size v (wrK zs ps m) ∧ Below w.heap.size w w' := by
  have H := Lib.hid h
  have H' := Lib.hid h'
  have HN := Lib.hid hN
  have HX := Lib.hid hX
  clear h h' hN hX
  have HO0 : Hid ((w.alloc (.cells #[] 3)).ownsRow w.heap.size 3 1 (.slice (some ⟨w.heap.size, 0, none⟩) 0 0) 0 (cI [])) := Lib.hid (own_empty w _ 1)
  have HB0 : Hid (Below w.heap.size w (w.alloc (.cells #[] 3))) := Lib.hid ((Below.refl _ _).alloc (Nat.le_refl _) _)
  go_enter Try.func65, Try.ntmps65
  go_wp2
  go_loopw [5, 6] (fun out i wr => ∃ (k L : Nat) (Ao : Option Addr) (co : Nat) (ys : List Int), k ≤ m ∧ L ≤ k ∧ i = .int .i64 k ∧ out = .slice Ao L co ∧ Hid (ys = wrK zs ps k) ∧ Hid (wr.ownsRow w.heap.size 3 1 (.slice Ao L co) L (cI ys)) ∧ Hid (Below w.heap.size w wr)) (fun _ i _ => m - (intOf i).toNat)
  case atStart => exact ⟨0, 0, _, 0, [], Nat.zero_le _, Nat.le_refl _, rfl, rfl, Lib.hid rfl, HO0, HB0⟩
  case round =>
    clear HO0 HB0
    obtain ⟨k, L, Ao, co, ys, hk, hL, rfl, rfl, HY, HO, HB⟩ := hrel
    by_cases hlt : k < m
    · obtain ⟨a, x, y, rfl, hab, hx0, hy0, HP⟩ := H'.out.ptAt hlt
      have hx := (HB.out.cell (p := a.add (k * 2)) (by rw [add_block]; exact hab)).trans hx0
      have hy := (HB.out.cell (p := ⟨(a.add (k * 2)).block, (a.add (k * 2)).off + 1, none⟩) (by rw [add_block]; exact hab)).trans hy0
      have hxr := HX.out k hlt
      rw [(pxy HP.out).1] at hxr
      obtain ⟨x0, x1⟩ := hxr
      have hzw := HB.out.size
      have HRz := Lib.hid ((H.out.below HB.out).more hzw)
      have i0 : (0 : Int) ≤ (k : Int) := by omega
      have i1 : (k : Int) < (m : Int) := by omega
      clear hx0 hy0
      by_cases hv : atI zs x = y
      · have HS := Lib.hid (HY.out.trans (wrK_in HP.out hv).symm)
        have hq : (atI zs x == y) = true := by simp [hv]
        have hq2 : (atI zs x != y) = false := by simp [hv]
        clear hv HP HY
        go_wp2
        go_quiet ((go_at_call 64; exact quiet_drewN (s_l2At _ _ _ _ _ _ (HRz.out.drewN _) HN.out hn x0 x1)))
        go_wp2
        go_roundw
        case rel => exact ⟨k + 1, L, Ao, co, ys, by omega, by omega, by go_num, rfl, HS, Lib.hid (ownsRow_below HO.out (below_drewN (Below.refl _ _) _)), Lib.hid (below_drewN HB.out _)⟩
        case measure => simp [intOf] <;> omega
      · have HS : Hid (ys ++ [x] = wrK zs ps (k + 1)) := Lib.hid (by rw [HY.out, wrK_out HP.out hv])
        have hq : (atI zs x == y) = false := by rw [beq_eq_false_iff_ne]; exact hv
        have hq2 : (atI zs x != y) = true := by simp [hv]
        clear hv HP HY
        go_wp2
        go_quiet ((go_at_call 64; exact quiet_drewN (s_l2At _ _ _ _ _ _ (HRz.out.drewN _) HN.out hn x0 x1)))
        have HL : Hid (Rd ((wr.drewN nq).alloc (.cells #[.int .i64 x] 3)) (wr.heap.size + 1) 1 (some ⟨wr.heap.size, 0, none⟩) 1 (cI [x])) := Lib.hid (lit_at (heap_alloc_new (wr.drewN nq) _))
        have HOd := Lib.hid ((ownsRow_below HO.out (below_drewN (Below.refl _ _) nq)).alloc (.cells #[.int .i64 x] 3))
        go_wp2_with (at_builtin
                     refine wpList_append_rd rfl (.tmp 27) (.tmp 33) _ rfl w.heap.size 3 _ 1 8 Try.underlying26 info_int rfl (by decide) (.slice Ao L co) L _ rfl HOd.out _ _ 1 1 (cI [x]) rfl HL.out (cI_one _) (by unfold maxLen; omega) (by omega) (by simp; omega) ?_
                     intro v6 w6 hown hgr hat
                     obtain ⟨A6, c6, hv6, ho6⟩ := Ow.of_own hown
                     subst hv6
                     have HO6 : Hid (w6.ownsRow w.heap.size 3 1 (.slice A6 (L + 1) c6) (L + 1) (cI (ys ++ [x]))) := Lib.hid (by rw [cI_append]; exact hown)
                     have HB6 : Hid (Below w.heap.size w w6) := Lib.hid (below_grown ((below_drewN HB.out nq).alloc hzw _) hgr (own_block HO.out) (by simp; omega))
                     clear hown hgr hat ho6)
        go_roundw
        case rel => exact ⟨k + 1, L + 1, A6, c6, ys ++ [x], by omega, by omega, by go_num, rfl, HS, HO6, HB6⟩
        case measure => simp [intOf] <;> omega
    · obtain rfl : m = k := by omega
      have HD : Hid (OwIntS wr w.heap.size wr.heap.size (.slice Ao L co) (wrK zs ps m)) := Lib.hid (by rw [← HY.out]; exact own_done rfl HO.out (by omega))
      go_wp2
      go_ret
      exact ⟨_, rfl, HD.out, HB.out⟩

set_option maxHeartbeats 2000000 in
theorem i_differing (A A' : Option Addr) (n c m c' : Nat) (zs : List Int) (ps : List (Int × Int)) (w : World) (h : Rd w w.heap.size 1 A n (cI zs)) (hN : Nums zs) (hn : n ≤ 1048576)
    (h' : Rd w w.heap.size 2 A' m (cP ps)) (hX : XIn ps m) (hm : m ≤ 1048576) :
    Calls Try.prog 73 #[.slice A n c, .slice A' m c'] w fun e w' => ∃ v, e = .returned v ∧ OwIntS w' w.heap.size w'.heap.size v (wrK zs ps m) ∧ Below w.heap.size w w' := by
  have H := Lib.hid h
  have H' := Lib.hid h'
  have HN := Lib.hid hN
  have HX := Lib.hid hX
  clear h h' hN hX
  have HO0 : Hid (w.ownsRow w.heap.size 3 1 (.slice none 0 0) 0 (cI [])) := Lib.hid (World.ownsRow_nil _ _ _ _)
  have HB0 : Hid (Below w.heap.size w w) := Lib.hid (Below.refl _ _)
  go_enter Try.func73, Try.ntmps73
  go_wp2
  go_loopw [5, 10] (fun out i wr => ∃ (k L : Nat) (Ao : Option Addr) (co : Nat) (ys : List Int), k ≤ m ∧ L ≤ k ∧ i = .int .i64 k ∧ out = .slice Ao L co ∧ Hid (ys = wrK zs ps k) ∧ Hid (wr.ownsRow w.heap.size 3 1 (.slice Ao L co) L (cI ys)) ∧ Hid (Below w.heap.size w wr)) (fun _ i _ => m - (intOf i).toNat)
  case atStart => exact ⟨0, 0, none, 0, [], Nat.zero_le _, Nat.le_refl _, rfl, rfl, Lib.hid rfl, HO0, HB0⟩
  case round =>
    clear HO0 HB0
    obtain ⟨k, L, Ao, co, ys, hk, hL, rfl, rfl, HY, HO, HB⟩ := hrel
    by_cases hlt : k < m
    · obtain ⟨a, x, y, rfl, hab, hx0, hy0, HP⟩ := H'.out.ptAt hlt
      have hx := (HB.out.cell (p := a.add (k * 2)) (by rw [add_block]; exact hab)).trans hx0
      have hy := (HB.out.cell (p := ⟨(a.add (k * 2)).block, (a.add (k * 2)).off + 1, none⟩) (by rw [add_block]; exact hab)).trans hy0
      have hxr := HX.out k hlt
      rw [(pxy HP.out).1] at hxr
      obtain ⟨x0, x1⟩ := hxr
      have hzw := HB.out.size
      have HBa := Lib.hid (HB.out.alloc hzw (.cells #[.int .i64 x, .int .i64 y] 53))
      have HRz := Lib.hid ((H.out.below HBa.out).more HBa.out.size)
      have HOa := Lib.hid (HO.out.alloc (.cells #[.int .i64 x, .int .i64 y] 53))
      have i0 : (0 : Int) ≤ (k : Int) := by omega
      have i1 : (k : Int) < (m : Int) := by omega
      clear hx0 hy0
      by_cases hv : atI zs x = y
      · have HS := Lib.hid (HY.out.trans (wrK_in HP.out hv).symm)
        have hq : (atI zs x == y) = true := by simp [hv]
        have hq2 : (atI zs x != y) = false := by simp [hv]
        clear hv HP HY
        go_wp2
        go_quiet ((go_at_call 111; exact quiet_still (i_polynomial_at _ _ _ _ _ _ (HRz.out.drewN _) HN.out hn x0 x1)))
        go_wp2
        go_roundw
        case rel => exact ⟨k + 1, L, Ao, co, ys, by omega, by omega, by go_num, rfl, HS, Lib.hid (ownsRow_below HOa.out (below_drewN (Below.refl _ _) _)), Lib.hid (below_drewN HBa.out _)⟩
        case measure => simp [intOf] <;> omega
      · have HS : Hid (ys ++ [x] = wrK zs ps (k + 1)) := Lib.hid (by rw [HY.out, wrK_out HP.out hv])
        have hq : (atI zs x == y) = false := by rw [beq_eq_false_iff_ne]; exact hv
        have hq2 : (atI zs x != y) = true := by simp [hv]
        clear hv HP HY
        go_wp2
        go_quiet ((go_at_call 111; exact quiet_still (i_polynomial_at _ _ _ _ _ _ (HRz.out.drewN _) HN.out hn x0 x1)))
        obtain ⟨W, hW⟩ : ∃ W, Hid (((wr.alloc (.cells #[.int .i64 x, .int .i64 y] 53)).drewN nq) = W) := ⟨_, Lib.hid rfl⟩
        have HL : Hid (Rd (((wr.alloc (.cells #[.int .i64 x, .int .i64 y] 53)).drewN nq).alloc (.cells #[.int .i64 x] 3)) (wr.heap.size + 1 + 1) 1 (some ⟨wr.heap.size + 1, 0, none⟩) 1 (cI [x])) := Lib.hid (lit_at (by have := heap_alloc_new ((wr.alloc (.cells #[.int .i64 x, .int .i64 y] 53)).drewN nq) (.cells #[.int .i64 x] 3); simp only [World.size_alloc, World.heap_drewN] at this ⊢; exact this))
        have HOd := Lib.hid ((ownsRow_below HOa.out (below_drewN (Below.refl _ _) nq)).alloc (.cells #[.int .i64 x] 3))
        go_wp2_with (at_builtin
                     refine wpList_append_rd rfl (.tmp 21) (.tmp 24) _ rfl w.heap.size 3 _ 1 8 Try.underlying26 info_int rfl (by decide) (.slice Ao L co) L _ rfl HOd.out _ _ 1 1 (cI [x]) rfl HL.out (cI_one _) (by unfold maxLen; omega) (by omega) (by simp; omega) ?_
                     intro v6 w6 hown hgr hat
                     obtain ⟨A6, c6, hv6, ho6⟩ := Ow.of_own hown
                     subst hv6
                     have HO6 : Hid (w6.ownsRow w.heap.size 3 1 (.slice A6 (L + 1) c6) (L + 1) (cI (ys ++ [x]))) := Lib.hid (by rw [cI_append]; exact hown)
                     have HB6 : Hid (Below w.heap.size w w6) := Lib.hid (below_grown ((below_drewN HBa.out nq).alloc HBa.out.size _) hgr (own_block HO.out) (by simp; omega))
                     clear hown hgr hat ho6)
        go_roundw
        case rel => exact ⟨k + 1, L + 1, A6, c6, ys ++ [x], by omega, by omega, by go_num, rfl, HS, HO6, HB6⟩
        case measure => simp [intOf] <;> omega
    · obtain rfl : m = k := by omega
      have HD : Hid (OwIntS wr w.heap.size wr.heap.size (.slice Ao L co) (wrK zs ps m)) := Lib.hid (by rw [← HY.out]; exact own_done rfl HO.out (by omega))
      go_wp2
      go_ret
      exact ⟨_, rfl, HD.out, HB.out⟩
end Go.Proofs.Ytjpjmlcmaombnaa

/- Chapter 5: the search for a reading, as a function of lists. -/
namespace Go.Proofs.Ytjpjmlcmaombnaa
set_option maxRecDepth 100000

abbrev Pt := Int × Int
def GL (l : List Pt) : Prop := (∀ p ∈ l, (0 ≤ p.1 ∧ p.1 ≤ 112) ∧ 0 ≤ p.2 ∧ p.2 ≤ 112) ∧ l.Pairwise (fun a b => a.1 ≠ b.1)
theorem GL.sub {l l' : List Pt} (h : GL l) (hs : l'.Sublist l) : GL l' := ⟨fun p hp => h.1 p (hs.subset hp), h.2.sublist hs⟩
theorem getD_mem (l : List Pt) (i : Nat) (h : i < l.length) : l.getD i (0, 0) = l[i] ∧ l[i] ∈ l := ⟨by simp [h], List.getElem_mem h⟩
theorem GL.good {l : List Pt} (h : GL l) : Good l l.length where
  x0 i hi := by unfold px; rw [(getD_mem l i hi).1]; exact (h.1 _ (getD_mem l i hi).2).1
  y0 i hi := by unfold py; rw [(getD_mem l i hi).1]; exact (h.1 _ (getD_mem l i hi).2).2
  ne i j hi hj hne := by
    unfold px; rw [(getD_mem l i hi).1, (getD_mem l j hj).1]
    rcases Nat.lt_or_gt_of_ne hne with hlt | hlt
    · exact List.pairwise_iff_getElem.1 h.2 i j hi hj hlt
    · exact fun e => List.pairwise_iff_getElem.1 h.2 j i hj hi hlt e.symm
theorem GL.of {l : List Pt} (h : Good l l.length) : GL l := by
  refine ⟨fun p hp => ?_, List.pairwise_iff_getElem.2 fun i j hi hj hlt => ?_⟩
  · obtain ⟨i, hi, rfl⟩ := List.mem_iff_getElem.1 hp
    have h1 := h.x0 i hi
    have h2 := h.y0 i hi
    unfold px at h1; unfold py at h2
    rw [(getD_mem l i hi).1] at h1 h2
    exact ⟨h1, h2⟩
  · have := h.ne i j hi hj (by omega)
    unfold px at this
    rwa [(getD_mem l i hi).1, (getD_mem l j hj).1] at this
def thrL (ch : List Pt) : List Int := thrS ch ch.length ch.length
theorem thrL_nums (ch : List Pt) : Nums (thrL ch) := thrS_nums _ _ _
theorem thrL_len (ch : List Pt) : (thrL ch).length ≤ ch.length := thrS_len _ _ _ (Nat.le_refl _)
theorem thrL_I {ch : List Pt} (h : GL ch) : (thrI ch ch.length).1 = thrL ch := through_one h.good
def wrL (p : List Int) (d : List Pt) : List Int := wrK p d d.length
def tstF (d : List Pt) (most : Int) (ch : List Pt) : Option (List Int) := if ((wrL (thrL ch) d).length : Int) ≤ most then some (thrL ch) else none
def sF (d : List Pt) (b1 : Nat) (most : Int) : List Pt → List Pt → Option (List Int)
  | [], ch => if ch.length = b1 then tstF d most ch else none
  | q :: r, ch => if ch.length = b1 then tstF d most ch else match sF d b1 most r (ch ++ [q]) with
    | some p => some p
    | none => sF d b1 most r ch
theorem sF_leaf {d : List Pt} {b1 : Nat} {most : Int} {rest ch : List Pt} (h : ch.length = b1) : sF d b1 most rest ch = tstF d most ch := by
  cases rest <;> simp [sF, h]
theorem sF_nil {d : List Pt} {b1 : Nat} {most : Int} {ch : List Pt} (h : ch.length ≠ b1) : sF d b1 most [] ch = none := by simp [sF, h]
theorem sF_some {d : List Pt} {b1 : Nat} {most : Int} {q : Pt} {r ch : List Pt} {p : List Int} (h : ch.length ≠ b1) (hs : sF d b1 most r (ch ++ [q]) = some p) : sF d b1 most (q :: r) ch = some p := by simp [sF, h, hs]
theorem sF_none {d : List Pt} {b1 : Nat} {most : Int} {q : Pt} {r ch : List Pt} (h : ch.length ≠ b1) (hs : sF d b1 most r (ch ++ [q]) = none) : sF d b1 most (q :: r) ch = sF d b1 most r ch := by simp [sF, h, hs]
theorem drop_step (d : List Pt) (i : Nat) (h : i < d.length) : d.drop i = d.getD i (0, 0) :: d.drop (i + 1) := by
  rw [List.drop_eq_getElem_cons h]; simp [h]
theorem drop_sub (d ch : List Pt) {at_ i : Nat} (h : at_ ≤ i) : (ch ++ d.drop i).Sublist (ch ++ d.drop at_) := by
  refine List.Sublist.append_left ?_ ch
  have : d.drop i = (d.drop at_).drop (i - at_) := by rw [List.drop_drop]; congr 1; omega
  rw [this]; exact List.drop_sublist _ _
/-- what is found is a polynomial through some of the points -/
theorem sF_is {d : List Pt} {b1 : Nat} {most : Int} (rest : List Pt) : ∀ (ch : List Pt) (p : List Int), sF d b1 most rest ch = some p → ∃ l, p = thrL l ∧ l.length = b1 ∧ l.Sublist (ch ++ rest) ∧ ((wrL p d).length : Int) ≤ most := by
  have hl : ∀ (ch : List Pt) (p : List Int), tstF d most ch = some p → p = thrL ch ∧ ((wrL p d).length : Int) ≤ most := fun ch p h => by
    unfold tstF at h
    split at h
    · rename_i hm
      injection h with h; subst h; exact ⟨rfl, hm⟩
    · cases h
  induction rest with
  | nil =>
    intro ch p h
    by_cases hc : ch.length = b1
    · rw [sF_leaf hc] at h; exact ⟨ch, (hl _ _ h).1, hc, by simp, (hl _ _ h).2⟩
    · rw [sF_nil hc] at h; cases h
  | cons q r ih =>
    intro ch p h
    by_cases hc : ch.length = b1
    · rw [sF_leaf hc] at h; exact ⟨ch, (hl _ _ h).1, hc, by simp, (hl _ _ h).2⟩
    · cases hs : sF d b1 most r (ch ++ [q]) with
      | some p' =>
        rw [sF_some hc hs] at h; injection h with h; subst h
        obtain ⟨l, h1, h2, h3, h4⟩ := ih _ _ hs
        exact ⟨l, h1, h2, by simpa using h3, h4⟩
      | none =>
        rw [sF_none hc hs] at h
        obtain ⟨l, h1, h2, h3, h4⟩ := ih _ _ h
        exact ⟨l, h1, h2, h3.trans (List.Sublist.append_left (List.sublist_cons_self _ _) ch), h4⟩
end Go.Proofs.Ytjpjmlcmaombnaa

/- Chapter 5: the search in the model (l5Search). -/
namespace Go.Proofs.Ytjpjmlcmaombnaa
open Go.RowKit
set_option maxRecDepth 100000

theorem cP_one' (zs : List (Int × Int)) : ∀ u ∈ cP zs, u.oneCell' = true := cP_one zs
section
variable {ops : Array Oper} {o : Oper} {a : Act} {K : Act → World → Prop} {Q : Exit → Act → World → Prop} {E : Prop} {W wr : World}
/-- append([]Point{}, x...) -/
theorem step_cp (hgd : o.guard = none) (s x : Operand)
    (ho : o.op = .call { callee := .builtin .append, args := #[s, x], argTypes := #[29, 29] })
    {lo B m c : Nat} {A : Option Addr} {zs : List (Int × Int)} (hs : a.eval s = .slice (some ⟨B, 0, none⟩) 0 0) (hx : a.eval x = .slice A m c) (hB : wr.heap.size ≤ B) (hlit : W.heap[B]? = some (.cells #[] 53 (0, 0)))
    (hr : Rd wr lo 2 A m (cP zs)) (hlo : lo ≤ wr.heap.size) (hbel : Below wr.heap.size wr W) (hm : m ≤ 1000)
    (h : ∀ A' c' w', Hid (w'.ownsRow wr.heap.size 53 2 (.slice A' m c') m (cP zs)) → Hid (Below wr.heap.size wr w') → Hid (∀ (g : Nat) (u v : Value), W.heap[g]? = some (Obj.cells #[u, v] 53 (0, 0)) → w'.heap[g]? = some (Obj.cells #[u, v] 53 (0, 0))) → K (a.put o.dst (.slice A' m c')) w') :
    if Region.wanted o (yielded ops a.tmps) = true then Oper.wp Try.prog o a W K Q else E := by
  refine step_append_rd hgd s x _ ho wr.heap.size 53 _ 2 16 Try.underlying29 info_pt rfl (by decide) _ 0 [] hs (own_lit0 hB hlit) _ _ m c (cP zs) hx (hr.below (hbel.mono hlo)) (cP_one _) (by unfold maxLen; omega) (by omega) hbel.size ?_
  intro v1 w1 hown hg _
  obtain ⟨A1, c1, rfl, _⟩ := Ow.of_own hown
  refine h A1 c1 w1 (Lib.hid (by simpa using hown)) (Lib.hid (below_grown hbel hg (own_block (own_lit0 (e := 53) (size := 2) hB hlit)) hbel.size)) (Lib.hid fun g u v hu => ?_) |> fun k => by simpa using k
  rw [hg.block g (Array.getElem?_eq_some_iff.1 hu).1 ?_]
  · exact hu
  · intro e
    simp [Value.ownBlock] at e
    subst e
    rw [hlit] at hu; simp at hu
/-- append(v, Point) -/
theorem step_pt2 {w1 : World} (hgd : o.guard = none) (s x : Operand)
    (ho : o.op = .call { callee := .builtin .append, args := #[s, x], argTypes := #[29, 29] })
    {g m c : Nat} {A : Option Addr} {zs : List (Int × Int)} {p q : Int} (hs : a.eval s = .slice A m c) (hx : a.eval x = .slice (some ⟨g, 0, none⟩) 1 1) (hown : w1.ownsRow wr.heap.size 53 2 (.slice A m c) m (cP zs)) (hb1 : Below wr.heap.size wr w1) (hW : Below w1.heap.size w1 W)
    (hl : W.heap[g]? = some (.cells #[.int .i64 p, .int .i64 q] 53 (0, 0))) (hm : m ≤ 1000)
    (h : ∀ A' c' w', Hid (w'.ownsRow wr.heap.size 53 2 (.slice A' (m + 1) c') (m + 1) (cP (zs ++ [(p, q)]))) → Hid (Below wr.heap.size wr w') → K (a.put o.dst (.slice A' (m + 1) c')) w') :
    if Region.wanted o (yielded ops a.tmps) = true then Oper.wp Try.prog o a W K Q else E := by
  have hb2 : Below wr.heap.size wr W := hb1.trans (hW.mono hb1.size)
  refine step_append_rd hgd s x _ ho wr.heap.size 53 _ 2 16 Try.underlying29 info_pt rfl (by decide) (.slice A m c) m (cP zs) hs (ownsRow_below hown hW) _ _ 1 1 (cP [(p, q)]) hx (lit_pt_at hl) (cP_one _) (by unfold maxLen; omega) (by omega) hb2.size ?_
  intro v1 w1 hown' hg _
  obtain ⟨A1, c1, rfl, _⟩ := Ow.of_own hown'
  exact h A1 c1 w1 (Lib.hid (by rw [cP_append]; exact hown')) (Lib.hid (below_grown hb2 hg (own_block hown) hb2.size))
end
theorem ret_vbool {v : Value} {a b : Bool} (h : a = b) : Ending.returned (.tuple #[v, .bool a]) = .returned (.tuple #[v, .bool b]) := by rw [h]
def isB (o : Option (List Int)) : Bool := o.isSome

set_option maxHeartbeats 2000000 in
theorem s_leaf (A : Option Addr) (n c b : Nat) (d : List Pt) (hdn : d.length = n) (hn : n ≤ 7) (hd : GL d) (z : Int) (rest ch : List Pt) (A' : Option Addr) (m c' : Nat) (w : World) (hgl : GL ch) (hlm : ch.length = m) (hleaf : m = b + 1) (hb : b < n) (h : Rd w w.heap.size 2 A n (cP d)) (h' : Rd w w.heap.size 2 A' m (cP ch)) :
    Calls Try.prog 63 #[.slice A n c, .int .i64 z, .slice A' m c', .int .i64 b] w fun e w' => ∃ v, e = .returned (.tuple #[v, .bool (isB (sF d (b + 1) (mostI n b) rest ch))]) ∧ (∀ p, sF d (b + 1) (mostI n b) rest ch = some p → OwIntS w' w.heap.size w'.heap.size v p) ∧ Below w.heap.size w w' := by
  have HD := Lib.hid hd
  have HDN := Lib.hid hdn
  have H := Lib.hid h
  have H' := Lib.hid h'
  have HGL := Lib.hid hgl
  have HLM := Lib.hid hlm
  clear hd hdn h h' hgl hlm
  have hq : ((m : Int) == (b : Int) + 1) = true := by rw [beq_iff_eq]; omega
  have HGC := Lib.hid (HGL.out).good
  have HSL : Hid (sF d (b + 1) (mostI n b) rest ch = tstF d (mostI n b) ch) := Lib.hid (sF_leaf (by rw [HLM.out, hleaf]))
  have HXI : Hid (XIn d n) := Lib.hid (by have := HD.out.good.x0; rw [HDN.out] at this; exact this)
  have hm7 : m ≤ 20 := by omega
  clear hleaf
  go_enter Try.func63, Try.ntmps63
  go_wp2_with fail
  refine (s_l2Through _ _ _ _ _ H'.out hm7 (by rw [← HLM.out]; exact HGC.out)).mono ?_
  rintro e w1 ⟨v, rfl, ho, hb1⟩
  obtain ⟨A1, n1, c1, rfl, hn1, hnc, ho1⟩ := ho.open
  have HV : Hid (thrS ch m m = thrL ch) := Lib.hid (by unfold thrL; rw [HLM.out])
  rw [HV.out] at ho ho1 hn1
  have HO := Lib.hid ho
  have HR1 := Lib.hid ho1.rd
  have HB1 := Lib.hid hb1
  have z1 := hb1.size
  have hn1' : n1 ≤ 1048576 := by have := thrL_len ch; rw [HLM.out] at this; omega
  clear ho ho1 hb1 hn1
  go_wp2_with fail
  refine (s_l5Wrong _ _ _ _ _ _ _ _ _ HR1.out (thrL_nums ch) hn1' ((H.out.below HB1.out).more z1) HXI.out (by omega)).mono ?_
  rintro e w2 ⟨v2, rfl, ho2, hb2⟩
  obtain ⟨A2, n2, c2, rfl, hn2, _, _⟩ := ho2.open
  have HO2 := Lib.hid (HO.out.below hb2 (Nat.le_refl _))
  have HB2 := Lib.hid (HB1.out.trans (hb2.mono z1))
  have z2 := hb2.size
  have HN2 : Hid (n2 = (wrL (thrL ch) d).length) := Lib.hid (by unfold wrL; rw [HDN.out]; exact hn2)
  have hn2' : n2 ≤ n := by rw [hn2]; exact wrK_le _ _ _
  clear ho2 hb2 hn2
  go_wp2_with fail
  refine (s_MendMost _ _ _).mono ?_
  rintro e w3 ⟨rfl, rfl⟩
  have HT : Hid (tstF d (mostI n b) ch = if (n2 : Int) ≤ mostI n b then some (thrL ch) else none) := Lib.hid (by unfold tstF; rw [HN2.out])
  have HF : Hid (decide ((n2 : Int) ≤ mostI n b) = isB (sF d (b + 1) (mostI n b) rest ch)) := Lib.hid (by
    rw [HSL.out, HT.out]; by_cases h9 : (n2 : Int) ≤ mostI n b <;> simp [h9, isB])
  have HFO : Hid (∀ p, sF d (b + 1) (mostI n b) rest ch = some p → p = thrL ch) := Lib.hid (fun p hp => by
    rw [HSL.out, HT.out] at hp
    split at hp
    · injection hp with hp; exact hp.symm
    · cases hp)
  clear HV HN2 HT
  go_wp2
  go_ret2
  refine ⟨_, ret_vbool HF.out, fun p hp => ?_, HB2.out⟩
  rw [HFO.out p hp]; exact HO2.out.widen (Nat.le_refl _) z2
theorem own_rd2 {w : World} {B m c hi : Nat} {A : Option Addr} {xs : List Pt} (h : w.ownsRow B 53 2 (.slice A m c) m (cP xs)) (hh : w.heap.size ≤ hi) : Rd w hi 2 A m (cP xs) := by
  obtain ⟨A1, c1, e, ho⟩ := Ow.of_own h
  injection e with e1 e2 e3
  subst e1
  exact ho.rd.more hh
set_option maxHeartbeats 8000000 in
theorem s_search (A : Option Addr) (n c b : Nat) (d : List Pt) (hdn : d.length = n) (hn : n ≤ 7) (hd : GL d) (hb : b < n) (k : Nat) :
    ∀ (at_ : Nat) (z : Int) (ch : List Pt) (A' : Option Addr) (m c' : Nat) (w : World), z = (at_ : Int) → at_ + k = n → GL (ch ++ d.drop at_) → ch.length = m → m ≤ b + 1 → Rd w w.heap.size 2 A n (cP d) → Rd w w.heap.size 2 A' m (cP ch) →
    Calls Try.prog 63 #[.slice A n c, .int .i64 z, .slice A' m c', .int .i64 b] w fun e w' => ∃ v, e = .returned (.tuple #[v, .bool (isB (sF d (b + 1) (mostI n b) (d.drop at_) ch))]) ∧ (∀ p, sF d (b + 1) (mostI n b) (d.drop at_) ch = some p → OwIntS w' w.heap.size w'.heap.size v p) ∧ Below w.heap.size w w' := by
  have HD := Lib.hid hd
  have HDN := Lib.hid hdn
  clear hd hdn
  induction k using Nat.strongRecOn with
  | _ k ih =>
    intro at_ z ch A' m c' w hz hk hgl hlm hm h h'
    by_cases hleaf : m = b + 1
    · exact s_leaf A n c b d HDN.out hn HD.out z (d.drop at_) ch A' m c' w (hgl.sub (List.sublist_append_left ch _)) hlm hleaf hb h h'
    have HIH := Lib.hid ih
    subst hz
    have H := Lib.hid h
    have H' := Lib.hid h'
    have HGL := Lib.hid hgl
    have HLM := Lib.hid hlm
    have HNE : Hid (ch.length ≠ b + 1) := Lib.hid (by rw [hlm]; exact hleaf)
    have hq : ((m : Int) == (b : Int) + 1) = false := by rw [beq_eq_false_iff_ne]; omega
    have hmb : m ≤ b := by omega
    clear ih h h' hgl hlm hleaf
    go_enter Try.func63, Try.ntmps63
    go_wp2
    go_loopw [11] (fun i wr => ∃ j : Nat, at_ ≤ j ∧ j ≤ n ∧ i = .int .i64 j ∧ Hid (sF d (b + 1) (mostI n b) (d.drop at_) ch = sF d (b + 1) (mostI n b) (d.drop j) ch) ∧ Hid (Below w.heap.size w wr)) (fun i _ => n - (intOf i).toNat)
    case atStart => exact ⟨at_, Nat.le_refl _, by omega, rfl, Lib.hid rfl, Lib.hid (Below.refl _ _)⟩
    case round =>
      obtain ⟨j, hj, hjn, rfl, HE, HB⟩ := hrel
      by_cases hlt : j < n
      · obtain ⟨a, x, y, rfl, hab, hx0, hy0, HP⟩ := H.out.ptAt hlt
        have hx := (HB.out.cell (p := a.add (j * 2)) (by rw [add_block]; exact hab)).trans hx0
        have hy := (HB.out.cell (p := ⟨(a.add (j * 2)).block, (a.add (j * 2)).off + 1, none⟩) (by rw [add_block]; exact hab)).trans hy0
        have HDR : Hid (d.drop j = (x, y) :: d.drop (j + 1)) := Lib.hid (by rw [drop_step d j (by rw [HDN.out]; exact hlt), HP.out])
        have HX := Lib.hid hx
        have HY := Lib.hid hy
        clear hx0 hy0
        have hzw := HB.out.size
        have HAB : Hid ((a.add (j * 2)).block < wr.heap.size) := Lib.hid (by rw [add_block]; exact Nat.lt_of_lt_of_le hab hzw)
        have HRc : Hid (Rd wr wr.heap.size 2 A' m (cP ch)) := Lib.hid ((H'.out.below HB.out).more hzw)
        have HRd : Hid (Rd wr wr.heap.size 2 (some a) n (cP d)) := Lib.hid ((H.out.below HB.out).more hzw)
        have HGN : Hid (GL ((ch ++ [(x, y)]) ++ d.drop (j + 1))) := Lib.hid (HGL.out.sub (by
          rw [List.append_assoc, List.singleton_append, ← HDR.out]; exact drop_sub d ch hj))
        have i0 : (0 : Int) ≤ (j : Int) := by omega
        have i1 : (j : Int) < (n : Int) := by omega
        have iw : IntKind.i64.wrap ((j : Int) + 1) = (j : Int) + 1 := IntWalk.i64_in _ (by omega)
        cases hs : sF d (b + 1) (mostI n b) (d.drop (j + 1)) (ch ++ [(x, y)]) with
        | none =>
          have HSV : Hid (sF d (b + 1) (mostI n b) (d.drop (j + 1)) (ch ++ [(x, y)]) = none) := Lib.hid hs
          clear hs
          go_wp2
          go_region_held3 (fun w' => w'.cell? (a.add (j * 2)) = some (.int .i64 x) ∧ w'.cell? ⟨(a.add (j * 2)).block, (a.add (j * 2)).off + 1, none⟩ = some (.int .i64 y)) (go_keep) (first
            | (refine step_cp rfl (.tmp 42) (.tmp 43) rfl (wr := wr) rfl rfl ?hge ?hlit HRc.out (Nat.le_refl _) ?hbel (by omega) ?_
               case hge => first | exact Nat.le_refl _ | exact Nat.le_succ _ | (simp; done)
               case hlit => first | exact heap_alloc_new _ _ | exact (Below.heap_alloc _ _ _ (by simp)).trans (heap_alloc_new _ _) | exact hid_size (by simp) (heap_alloc_new _ _)
               case hbel => first | exact below_drew ((Below.refl _ _).alloc (Nat.le_refl _) _) | exact below_drew (((Below.refl _ _).alloc (Nat.le_refl _) _).alloc (by simp) _)
               intro A1 c1 w1 h1 h2 h3
               have hx1 := (h2.out.cell HAB.out).trans HX.out
               have hy1 := (h2.out.cell (p := ⟨(a.add (j * 2)).block, (a.add (j * 2)).off + 1, none⟩) HAB.out).trans HY.out
               first
                | (have HL := Lib.hid (h3.out _ _ _ (heap_alloc_new _ _)); clear h3)
                | (have HL := Lib.hid (h3.out _ _ _ ((Below.heap_alloc _ _ _ (by simp)).trans (heap_alloc_new _ _))); clear h3)
                | clear h3)
            | (refine step_pt2 (p := x) (q := y) rfl (.tmp 44) (.tmp 49) rfl rfl rfl h1.out h2.out ?hW ?hl (by omega) ?_
               case hW => first | exact (Below.refl _ _).alloc (Nat.le_refl _) _ | exact Below.refl _ _
               case hl => first | exact heap_alloc_new _ _ | exact HL.out | exact hid_size (by simp) HL.out
               clear h1 h2 hx1 hy1
               intro A2 c2 w2 h4 h5
               have hx1 := (h5.out.cell HAB.out).trans HX.out
               have hy1 := (h5.out.cell (p := ⟨(a.add (j * 2)).block, (a.add (j * 2)).off + 1, none⟩) HAB.out).trans HY.out)
            | (go_at_call 63
               refine (HIH.out (n - (j + 1)) (by omega) (j + 1) ((j : Int) + 1) (ch ++ [(x, y)]) A2 (m + 1) c2 _ (by simp) (by omega) HGN.out (by rw [List.length_append, HLM.out]; rfl) (by omega) ((HRd.out.below h5.out).more h5.out.size) (own_rd2 h4.out (Nat.le_refl _))).mono ?_
               rintro e w3 ⟨v3, rfl, ho3, hb3⟩
               rw [HSV.out]
               have HO3 := Lib.hid ho3
               have HB3 := Lib.hid (h5.out.trans (hb3.mono h5.out.size))
               have HZ3 := Lib.hid h5.out.size
               have hx2 := (HB3.out.cell HAB.out).trans HX.out
               have hy2 := (HB3.out.cell (p := ⟨(a.add (j * 2)).block, (a.add (j * 2)).off + 1, none⟩) HAB.out).trans HY.out
               clear h4 h5 hx1 hy1 ho3 hb3))
          all_goals (
            have HE2 : Hid (sF d (b + 1) (mostI n b) (d.drop at_) ch = sF d (b + 1) (mostI n b) (d.drop (j + 1)) ch) := Lib.hid (by rw [HE.out, HDR.out, sF_none HNE.out HSV.out])
            have HB4 := Lib.hid (HB.out.trans (HB3.out.mono hzw))
            clear HO3 HB3 HZ3 hx2 hy2 iw
            go_wp2
            go_roundw
            case rel => exact ⟨j + 1, by omega, by omega, by go_num, HE2, HB4⟩
            case measure => simp [intOf] <;> omega)
        | some p =>
          have HSV : Hid (sF d (b + 1) (mostI n b) (d.drop (j + 1)) (ch ++ [(x, y)]) = some p) := Lib.hid hs
          clear hs
          go_wp2
          go_region_held3 (fun w' => w'.cell? (a.add (j * 2)) = some (.int .i64 x) ∧ w'.cell? ⟨(a.add (j * 2)).block, (a.add (j * 2)).off + 1, none⟩ = some (.int .i64 y)) (go_keep) (first
            | (refine step_cp rfl (.tmp 42) (.tmp 43) rfl (wr := wr) rfl rfl ?hge ?hlit HRc.out (Nat.le_refl _) ?hbel (by omega) ?_
               case hge => first | exact Nat.le_refl _ | exact Nat.le_succ _ | (simp; done)
               case hlit => first | exact heap_alloc_new _ _ | exact (Below.heap_alloc _ _ _ (by simp)).trans (heap_alloc_new _ _) | exact hid_size (by simp) (heap_alloc_new _ _)
               case hbel => first | exact below_drew ((Below.refl _ _).alloc (Nat.le_refl _) _) | exact below_drew (((Below.refl _ _).alloc (Nat.le_refl _) _).alloc (by simp) _)
               intro A1 c1 w1 h1 h2 h3
               have hx1 := (h2.out.cell HAB.out).trans HX.out
               have hy1 := (h2.out.cell (p := ⟨(a.add (j * 2)).block, (a.add (j * 2)).off + 1, none⟩) HAB.out).trans HY.out
               first
                | (have HL := Lib.hid (h3.out _ _ _ (heap_alloc_new _ _)); clear h3)
                | (have HL := Lib.hid (h3.out _ _ _ ((Below.heap_alloc _ _ _ (by simp)).trans (heap_alloc_new _ _))); clear h3)
                | clear h3)
            | (refine step_pt2 (p := x) (q := y) rfl (.tmp 44) (.tmp 49) rfl rfl rfl h1.out h2.out ?hW ?hl (by omega) ?_
               case hW => first | exact (Below.refl _ _).alloc (Nat.le_refl _) _ | exact Below.refl _ _
               case hl => first | exact heap_alloc_new _ _ | exact HL.out | exact hid_size (by simp) HL.out
               clear h1 h2 hx1 hy1
               intro A2 c2 w2 h4 h5
               have hx1 := (h5.out.cell HAB.out).trans HX.out
               have hy1 := (h5.out.cell (p := ⟨(a.add (j * 2)).block, (a.add (j * 2)).off + 1, none⟩) HAB.out).trans HY.out)
            | (go_at_call 63
               refine (HIH.out (n - (j + 1)) (by omega) (j + 1) ((j : Int) + 1) (ch ++ [(x, y)]) A2 (m + 1) c2 _ (by simp) (by omega) HGN.out (by rw [List.length_append, HLM.out]; rfl) (by omega) ((HRd.out.below h5.out).more h5.out.size) (own_rd2 h4.out (Nat.le_refl _))).mono ?_
               rintro e w3 ⟨v3, rfl, ho3, hb3⟩
               rw [HSV.out]
               have HO3 := Lib.hid ho3
               have HB3 := Lib.hid (h5.out.trans (hb3.mono h5.out.size))
               have HZ3 := Lib.hid h5.out.size
               have hx2 := (HB3.out.cell HAB.out).trans HX.out
               have hy2 := (HB3.out.cell (p := ⟨(a.add (j * 2)).block, (a.add (j * 2)).off + 1, none⟩) HAB.out).trans HY.out
               clear h4 h5 hx1 hy1 ho3 hb3))
          all_goals (
            have HE2 : Hid (sF d (b + 1) (mostI n b) (d.drop at_) ch = some p) := Lib.hid (by rw [HE.out, HDR.out, sF_some HNE.out HSV.out])
            have HE3 : Hid (true = isB (sF d (b + 1) (mostI n b) (d.drop at_) ch)) := Lib.hid (by rw [HE2.out]; rfl)
            have HB4 := Lib.hid (HB.out.trans (HB3.out.mono hzw))
            have HO4 := Lib.hid ((HO3.out p HSV.out).widen (Nat.le_trans hzw HZ3.out) (Nat.le_refl _))
            clear HO3 HB3 HZ3 hx2 hy2 iw
            go_wp2
            go_ret2
            refine ⟨_, ret_vbool HE3.out, fun p' hp => ?_, HB4.out⟩
            rw [HE2.out] at hp; injection hp with hp; rw [← hp]; exact HO4.out)
      · obtain rfl : n = j := by omega
        have HF : Hid (false = isB (sF d (b + 1) (mostI n b) (d.drop at_) ch) ∧ ∀ p, sF d (b + 1) (mostI n b) (d.drop at_) ch = some p → False) := Lib.hid (by
          rw [HE.out, List.drop_eq_nil_of_le (by rw [HDN.out]; exact Nat.le_refl _), sF_nil HNE.out]; exact ⟨rfl, fun p h => by cases h⟩)
        go_wp2
        go_ret2
        exact ⟨_, ret_vbool HF.out.1, fun p hp => (HF.out.2 p hp).elim, HB.out⟩
end Go.Proofs.Ytjpjmlcmaombnaa

/- Chapter 5: SharesMend in the model. -/
namespace Go.Proofs.Ytjpjmlcmaombnaa
open Go.RowKit
set_option maxRecDepth 100000

def mendB (d : List Pt) (b : Int) : Bool := ptsB d && (decide (0 ≤ mostI d.length b) && xsK d 7 d.length)
def mendO (d : List Pt) (b : Int) : Option (List Int) := if mendB d b = true then sF d (b.toNat + 1) (mostI d.length b) d [] else none
def R_SharesMend_0 (d : List Pt) (b : Int) : Int := match mendO d b with | some p => atI p 0 | none => 0
def R_SharesMend_1 (d : List Pt) (b : Int) : List Int := match mendO d b with | some p => wrL p d | none => []
def R_SharesMend_2 (d : List Pt) (b : Int) : Bool := isB (mendO d b)
theorem mend_none {d : List Pt} {b : Int} (h : mendO d b = none) : Hid (R_SharesMend_0 d b = 0 ∧ R_SharesMend_1 d b = [] ∧ R_SharesMend_2 d b = false) := Lib.hid (by
  unfold R_SharesMend_0 R_SharesMend_1 R_SharesMend_2; rw [h]; exact ⟨rfl, rfl, rfl⟩)
theorem mend_some {d : List Pt} {b : Int} {p : List Int} (h : mendO d b = some p) : Hid (R_SharesMend_0 d b = atI p 0 ∧ R_SharesMend_1 d b = wrL p d ∧ R_SharesMend_2 d b = true) := Lib.hid (by
  unfold R_SharesMend_0 R_SharesMend_1 R_SharesMend_2; rw [h]; exact ⟨rfl, rfl, rfl⟩)
theorem mend_no {d : List Pt} {b : Int} (h : mendB d b = false) : mendO d b = none := by unfold mendO; rw [h]; rfl
theorem most_ge {n b : Int} (h : 0 ≤ mostI n b) : 1 ≤ n ∧ n ≤ 7 ∧ 0 ≤ b ∧ b < n := by
  by_cases hc : 1 ≤ n ∧ n ≤ 7 ∧ 0 ≤ b ∧ b < n
  · exact hc
  · rw [mostI_no hc] at h; omega
theorem most_lt {n b : Int} (h : 1 ≤ n ∧ n ≤ 7 ∧ 0 ≤ b ∧ b < n) : 0 ≤ mostI n b := by rw [mostI_yes h]; omega
theorem ret_ivb {a a' : Int} {v : Value} {c c' : Bool} (h1 : a = a') (h2 : c = c') : Ending.returned (.tuple #[.int .i64 a, v, .bool c]) = .returned (.tuple #[.int .i64 a', v, .bool c']) := by rw [h1, h2]

set_option maxHeartbeats 2000000 in
theorem X_s_SharesMend (v : Value) (d : List Pt) (b : Int) (w : World) (h : RdPointS w w.heap.size v d) (hs : szPointS d ≤ 1048576) :
    Calls Try.prog 23 #[v, .int .i64 b] w fun e w' => ∃ g, e = .returned (.tuple #[.int .i64 (R_SharesMend_0 d b), g, .bool (R_SharesMend_2 d b)]) ∧ OwIntS w' w.heap.size w'.heap.size g (R_SharesMend_1 d b) ∧ Below w.heap.size w w' := by
  obtain ⟨A, n, c, rfl, _, r⟩ := h
  have hn : n ≤ 1048576 := by have := r.plen; unfold szPointS at hs; omega
  have HDN := Lib.hid r.plen
  have H := Lib.hid r
  clear r hs
  cases hp : ptsB d
  · have HF := mend_none (mend_no (d := d) (b := b) (by unfold mendB; rw [hp]; rfl))
    go_enter Try.func23, Try.ntmps23
    go_wp2_with fail
    refine (s_l2Points _ _ _ _ _ H.out hn).mono ?_
    rintro e w1 ⟨rfl, hb⟩
    have HB : Hid (Below w.heap.size w w1) := Lib.hid (hb.below _)
    clear hb
    rw [hp]
    go_wp2
    go_ret3
    refine ⟨_, ret_ivb HF.out.1.symm HF.out.2.2.symm, ?_, HB.out⟩
    rw [HF.out.2.1]; exact OwIntS.nil_ _ _ _
  by_cases hm : 0 ≤ mostI n b
  · obtain ⟨n1, n7, b0, b1⟩ := most_ge hm
    obtain ⟨B, rfl⟩ := Int.eq_ofNat_of_zero_le b0
    have HGL : Hid (GL d) := Lib.hid (GL.of (by have := (shB_good HDN.out hp).1; rw [HDN.out]; exact this))
    have HMO : Hid (xsK d 7 n = true → mendO d B = sF d (B + 1) (mostI n B) d []) := Lib.hid (fun hx => by
      unfold mendO; rw [if_pos (by unfold mendB; rw [HDN.out, hp, hx, decide_eq_true hm]; rfl), HDN.out]; simp)
    have HXI : Hid (XIn d n) := Lib.hid (by have := HGL.out.good.x0; rw [HDN.out] at this; exact this)
    have hm2 : ¬ (mostI n B < 0) := by omega
    go_enter Try.func23, Try.ntmps23
    go_wp2_with fail
    refine (s_l2Points _ _ _ _ _ H.out hn).mono ?_
    rintro e w1 ⟨rfl, hb⟩
    have HB : Hid (Below w.heap.size w w1) := Lib.hid (hb.below _)
    have hz1 := HB.out.size
    have H1 : Hid (Rd w1 w1.heap.size 2 A n (cP d)) := Lib.hid ((H.out.below HB.out).more hz1)
    clear hb
    rw [hp]
    go_wp2_with fail
    refine (s_MendMost _ _ _).mono ?_
    rintro e w2 ⟨rfl, rfl⟩
    clear hp
    go_wp2
    go_loop [7] (fun i => ∃ k : Nat, k ≤ n ∧ i = .int .i64 k ∧ Hid (xsK d 7 k = true)) (fun i => n - (intOf i).toNat)
    case atStart => exact ⟨0, Nat.zero_le _, rfl, Lib.hid rfl⟩
    case round =>
      obtain ⟨k, hk, rfl, HK⟩ := hrel
      by_cases hlt : k < n
      · obtain ⟨a, x, y, rfl, hab, hx, hy, HP⟩ := H1.out.ptAt hlt
        have HXY := Lib.hid (pxy HP.out)
        have i0 : (0 : Int) ≤ (k : Int) := by omega
        have i1 : (k : Int) < (n : Int) := by omega
        cases hbx : inB x 1 7
        · have HF := mend_none (mend_no (d := d) (b := B) (by
            unfold mendB
            rw [HDN.out, xsK_bad (k := k) (n := n) (by rw [xsK, HXY.out.1]; unfold inB at hbx; rw [hbx]; simp) hlt]; simp))
          go_wp2_with fail
          refine (s_l6In _ _ _ _).mono ?_
          rintro e w2 ⟨rfl, rfl⟩
          rw [hbx]
          go_wp2
          go_ret3
          refine ⟨_, ret_ivb HF.out.1.symm HF.out.2.2.symm, ?_, HB.out⟩
          rw [HF.out.2.1]; exact OwIntS.nil_ _ _ _
        · have HK2 : Hid (xsK d 7 (k + 1) = true) := Lib.hid (by rw [xsK, HK.out, HXY.out.1]; unfold inB at hbx; rw [hbx]; rfl)
          go_wp2_with fail
          refine (s_l6In _ _ _ _).mono ?_
          rintro e w2 ⟨rfl, rfl⟩
          rw [hbx]
          go_wp2
          go_round
          case rel => exact ⟨k + 1, by omega, by go_num, HK2⟩
          case measure => simp [intOf] <;> omega
      · obtain rfl : n = k := by omega
        have HMS := Lib.hid (HMO.out HK.out)
        have hbn : B < n := by omega
        have hn7 : n ≤ 7 := by omega
        have HL0 : Hid (Rd (w1.alloc (.cells #[] 53)) (w1.alloc (.cells #[] 53)).heap.size 2 (some ⟨w1.heap.size, 0, none⟩) 0 (cP [])) := Lib.hid ⟨rfl, fun h => by omega⟩
        have HBa := Lib.hid ((Below.refl w1.heap.size w1).alloc (Nat.le_refl _) (.cells #[] 53))
        have HR1 := Lib.hid ((H1.out.below HBa.out).more HBa.out.size)
        clear HMO HK
        go_wp2_with fail
        refine (s_search A n c B d HDN.out hn7 HGL.out hbn n 0 0 [] (some ⟨w1.heap.size, 0, none⟩) 0 0 _ rfl (by omega) (by simpa using HGL.out) rfl (by omega) HR1.out HL0.out).mono ?_
        rintro e w2 ⟨v2, rfl, ho2, hb2⟩
        have z2 := hb2.size
        have HB2 : Hid (Below w.heap.size w w2) := Lib.hid (HB.out.trans ((HBa.out.trans (hb2.mono (by simp))).mono hz1))
        have HRD2 : Hid (Rd w2 w2.heap.size 2 A n (cP d)) := Lib.hid ((HR1.out.below hb2).more z2)
        simp only [List.drop_zero] at ho2
        have HOF := Lib.hid ho2
        have hz12 : w.heap.size ≤ (w1.alloc (.cells #[] 53)).heap.size := by simp; omega
        simp only [List.drop_zero]
        clear ho2 hb2
        cases hsf : sF d (B + 1) (mostI n B) d [] with
        | none =>
          have HF := mend_none (HMS.out.trans hsf)
          clear hsf
          go_wp2
          go_ret3
          refine ⟨_, ret_ivb HF.out.1.symm HF.out.2.2.symm, ?_, HB2.out⟩
          rw [HF.out.2.1]; exact OwIntS.nil_ _ _ _
        | some p =>
          have HF := mend_some (HMS.out.trans hsf)
          have ho := HOF.out p hsf
          obtain ⟨l, hpl, hll, hsub, _⟩ := sF_is _ _ _ hsf
          have HNP : Hid (Nums p) := Lib.hid (by rw [hpl]; exact thrL_nums l)
          have hpn : p.length ≤ 1048576 := by rw [hpl]; have := thrL_len l; omega
          obtain ⟨A2, n2, c2, rfl, hn2, hnc2, ho2⟩ := ho.open
          have HRP : Hid (Rd w2 w2.heap.size 1 A2 n2 (cI p)) := Lib.hid ho2.rd
          have hn2' : n2 ≤ 1048576 := by omega
          clear hsf HOF ho ho2 hpl hll hsub hn2 hnc2 hpn
          have hib : isB (some p) = true := rfl
          rw [hib]
          go_wp2_with fail
          refine (s_l2At _ _ _ _ _ _ HRP.out HNP.out hn2' (by omega) (by omega)).mono ?_
          rintro e w3 ⟨rfl, rfl⟩
          go_wp2_with fail
          refine (s_l5Wrong _ _ _ _ _ _ _ _ _ HRP.out HNP.out hn2' HRD2.out HXI.out hn).mono ?_
          rintro e w4 ⟨v4, rfl, ho4, hb4⟩
          have HO4 : Hid (OwIntS w4 w.heap.size w4.heap.size v4 (R_SharesMend_1 d B)) := Lib.hid (by
            rw [HF.out.2.1]; unfold wrL; rw [HDN.out]; exact ho4.widen (by omega) (Nat.le_refl _))
          have HB4 := Lib.hid (HB2.out.trans (hb4.mono HB2.out.size))
          clear ho4 hb4
          go_wp2
          go_ret3
          exact ⟨_, ret_ivb HF.out.1.symm HF.out.2.2.symm, HO4.out, HB4.out⟩
  · have HF := mend_none (mend_no (d := d) (b := b) (by unfold mendB; rw [HDN.out, decide_eq_false hm]; simp))
    have hm2 : mostI n b < 0 := by omega
    go_enter Try.func23, Try.ntmps23
    go_wp2_with fail
    refine (s_l2Points _ _ _ _ _ H.out hn).mono ?_
    rintro e w1 ⟨rfl, hb⟩
    have HB : Hid (Below w.heap.size w w1) := Lib.hid (hb.below _)
    clear hb
    rw [hp]
    go_wp2_with fail
    refine (s_MendMost _ _ _).mono ?_
    rintro e w2 ⟨rfl, rfl⟩
    go_wp2
    go_ret3
    refine ⟨_, ret_ivb HF.out.1.symm HF.out.2.2.symm, ?_, HB.out⟩
    rw [HF.out.2.1]; exact OwIntS.nil_ _ _ _
end Go.Proofs.Ytjpjmlcmaombnaa

/- P33: shares of which few are changed mend to the secret: the mathematics. -/
namespace Go.Proofs.Ytjpjmlcmaombnaa
open Go.RowKit
set_option maxRecDepth 100000

def fits (q : List Int) (a : Pt) : Bool := decide (atI q a.1 = a.2)
theorem wrK_filter (q : List Int) (d : List Pt) (k : Nat) (hk : k ≤ d.length) : wrK q d k = ((d.take k).filter (fun a => !fits q a)).map Prod.fst := by
  induction k with
  | zero => simp [wrK]
  | succ k ih =>
    have hlt : k < d.length := by omega
    have hx : px d k = d[k].1 := by unfold px; rw [(getD_mem d k hlt).1]
    have hy : py d k = d[k].2 := by unfold py; rw [(getD_mem d k hlt).1]
    rw [List.take_succ_eq_append_getElem hlt, List.filter_append, List.map_append, ← ih (by omega), wrK, hx, hy]
    by_cases h : atI q d[k].1 = d[k].2
    · rw [if_pos h]; simp [fits, h]
    · rw [if_neg h]; simp [fits, h]
theorem wrL_filter (q : List Int) (d : List Pt) : wrL q d = (d.filter (fun a => !fits q a)).map Prod.fst := by
  unfold wrL; rw [wrK_filter q d _ (Nat.le_refl _), List.take_length]
theorem wrL_len (q : List Int) (d : List Pt) : (wrL q d).length = (d.filter (fun a => !fits q a)).length := by rw [wrL_filter, List.length_map]
theorem wrL_ext {p q : List Int} (h : ∀ x, atI p x = atI q x) (d : List Pt) : wrL p d = wrL q d := by
  have : fits p = fits q := by funext a; simp [fits, h]
  rw [wrL_filter, wrL_filter, this]
theorem cnt (l : List Pt) (f g : Pt → Bool) : l.length ≤ (l.filter (fun a => f a && g a)).length + (l.filter (fun a => !f a)).length + (l.filter (fun a => !g a)).length := by
  induction l with
  | nil => simp
  | cons a l ih =>
    cases hf : f a <;> cases hg : g a <;> simp [hf, hg] <;> omega
theorem agree {d : List Pt} (hG : GL d) {p q : List Int} (hp : Nums p) (hq : Nums q) (l : List Pt) (hl : l.Sublist d) (lp : p.length ≤ l.length) (lq : q.length ≤ l.length) (h : ∀ a ∈ l, atI p a.1 = atI q a.1) : ∀ x, atI p x = atI q x := by
  have hG2 := hG.sub hl
  have hj := one_through (l.map Prod.fst) p q hp hq (by simpa using lp) (by simpa using lq)
    (List.pairwise_map.2 (hG2.2.imp_of_mem fun {a b} ha hb hne => by have := (hG2.1 a ha).1; have := (hG2.1 b hb).1; omega))
    (fun x hx => by obtain ⟨a, ha, rfl⟩ := List.mem_map.1 hx; exact h a ha)
  intro x
  rw [atI_sv, atI_sv, sv_ext p q hj]
theorem sF_full {d : List Pt} {b1 : Nat} {most : Int} (rest : List Pt) : ∀ (ch l : List Pt), l.Sublist rest → (ch ++ l).length = b1 → tstF d most (ch ++ l) ≠ none → sF d b1 most rest ch ≠ none := by
  induction rest with
  | nil =>
    intro ch l hl hlen ht
    obtain rfl := List.sublist_nil.1 hl
    rw [List.append_nil] at hlen ht
    rw [sF_leaf hlen]; exact ht
  | cons q r ih =>
    intro ch l hl hlen ht
    by_cases hc : ch.length = b1
    · obtain rfl : l = [] := List.length_eq_zero_iff.1 (by rw [List.length_append] at hlen; omega)
      rw [List.append_nil] at ht
      rw [sF_leaf hc]; exact ht
    · cases hs : sF d b1 most r (ch ++ [q]) with
      | some p => rw [sF_some hc hs]; simp
      | none =>
        rw [sF_none hc hs]
        cases hl with
        | cons _ hl' => exact ih ch l hl' hlen ht
        | cons_cons _ hl' =>
          rename_i l'
          exact absurd hs (ih (ch ++ [q]) l' hl' (by simpa using hlen) (by simpa using ht))
/-- the points, of which the first k may be changed -/
structure Chg (q : List Int) (d : List Pt) (N k : Nat) : Prop where
  len : d.length = N
  xs : ∀ j, j < N → px d j = (j : Int) + 1
  ys : ∀ j, j < N → 0 ≤ py d j ∧ py d j ≤ 112
  rest : ∀ j, k ≤ j → j < N → py d j = atI q ((j : Int) + 1)
theorem Chg.good {q : List Int} {d : List Pt} {N k : Nat} (h : Chg q d N k) (hN : N ≤ 7) : Good d N where
  x0 i hi := by rw [h.xs i hi]; omega
  y0 i hi := h.ys i hi
  ne i j hi hj hne := by rw [h.xs i hi, h.xs j hj]; omega
theorem mend_all {s N : Int} {t : List Int} {d : List Pt} {k : Nat} (h : ofB s N t = true) (C : Chg (s :: t) d N.toNat k) (hw : ((wrL (s :: t) d).length : Int) ≤ mostI N t.length) :
    R_SharesMend_0 d t.length = s ∧ R_SharesMend_1 d t.length = wrL (s :: t) d ∧ R_SharesMend_2 d t.length = true := by
  obtain ⟨h1, h2, ⟨N1, N7⟩, h4⟩ := ofB_parts h
  have hq := nums_consE h1 h2
  have hlen := C.len
  have hdN : (d.length : Int) = N := by omega
  have hgood : Good d d.length := by rw [hlen]; exact C.good (by omega)
  have hG := GL.of hgood
  have hmost : mostI N t.length = (N - t.length - 1) / 2 := mostI_yes (by omega)
  have hB : mendB d t.length = true := by
    unfold mendB ptsB
    rw [okK_of hgood, xsK_of (fun i hi => by rw [C.xs i (by omega)]; omega), hdN, decide_eq_true (show d.length ≤ 20 by omega), decide_eq_true (show 0 ≤ mostI N t.length by omega)]; rfl
  have hO : mendO d t.length = sF d (t.length + 1) (mostI N t.length) d [] := by
    unfold mendO; rw [if_pos hB, hdN]; simp
  -- one reading is found
  have hsome : sF d (t.length + 1) (mostI N t.length) d [] ≠ none := by
    have hc := cnt d (fits (s :: t)) (fits (s :: t))
    rw [← wrL_len] at hc
    have hsub : ((d.filter (fun a => fits (s :: t) a && fits (s :: t) a)).take (t.length + 1)).Sublist d := (List.take_sublist _ _).trans List.filter_sublist
    have hll : ((d.filter (fun a => fits (s :: t) a && fits (s :: t) a)).take (t.length + 1)).length = t.length + 1 := by rw [List.length_take]; omega
    have hfit : ∀ a ∈ (d.filter (fun a => fits (s :: t) a && fits (s :: t) a)).take (t.length + 1), atI (s :: t) a.1 = a.2 := fun a ha => by
      have := (List.mem_filter.1 ((List.take_sublist _ _).subset ha)).2
      simpa [fits] using this
    generalize (d.filter (fun a => fits (s :: t) a && fits (s :: t) a)).take (t.length + 1) = l at *
    have hgl := (hG.sub hsub).good
    have hat := (thrS_at hgl l.length (Nat.le_refl _)).1
    have hag := agree hG (thrL_nums l) hq l hsub (thrL_len l) (by simp [hll]) (fun a ha => by
      obtain ⟨i, hi, rfl⟩ := List.mem_iff_getElem.1 ha
      have := hat i hi
      unfold px py at this
      rw [(getD_mem l i hi).1] at this
      rw [hfit _ ha, atI_sv]; exact this)
    refine sF_full d [] l hsub (by simpa using hll) ?_
    rw [List.nil_append]
    unfold tstF
    rw [if_pos (by rw [wrL_ext hag]; exact hw)]; simp
  cases hs : sF d (t.length + 1) (mostI N t.length) d [] with
  | none => exact absurd hs hsome
  | some p =>
    have HM := (mend_some (hO.trans hs)).out
    obtain ⟨l, rfl, hll, hsub, hpw⟩ := sF_is d [] p hs
    have hc := cnt d (fits (thrL l)) (fits (s :: t))
    rw [← wrL_len, ← wrL_len] at hc
    have hag := agree hG (thrL_nums l) hq (d.filter (fun a => fits (thrL l) a && fits (s :: t) a)) List.filter_sublist (by have := thrL_len l; omega) (by simp only [List.length_cons]; omega) (fun a ha => by
      have := (List.mem_filter.1 ha).2
      simp only [fits, Bool.and_eq_true, decide_eq_true_eq] at this
      rw [this.1, this.2])
    refine ⟨?_, ?_, HM.2.2⟩
    · rw [HM.1, hag, atI_sv]
      have := (numB_iff s).1 h1
      simp [sv]; omega
    · rw [HM.2.1, wrL_ext hag]
theorem px_set {d : List Pt} {k i : Nat} (v : Pt) (h : i ≠ k) : px (d.set k v) i = px d i ∧ py (d.set k v) i = py d i := by
  unfold px py; simp [List.getD_eq_getElem?_getD, List.getElem?_set_ne (Ne.symm h)]
theorem px_at {d : List Pt} {k : Nat} (x y : Int) (h : k < d.length) : px (d.set k (x, y)) k = x ∧ py (d.set k (x, y)) k = y := by
  unfold px py; simp [List.getD_eq_getElem?_getD, h]
theorem wrK_set (q : List Int) (d : List Pt) (k : Nat) (v : Pt) (j : Nat) (hj : j ≤ k) : wrK q (d.set k v) j = wrK q d j := by
  induction j with
  | zero => rfl
  | succ j ih =>
    have := px_set (d := d) (k := k) (i := j) v (by omega)
    rw [wrK, wrK, ih (by omega), this.1, this.2]
theorem Chg.wr {q : List Int} {d : List Pt} {N k : Nat} (C : Chg q d N k) (hk : k ≤ N) : wrL q d = wrK q d k := by
  unfold wrL
  rw [C.len]
  have go : ∀ j, k + j ≤ N → wrK q d (k + j) = wrK q d k := fun j => by
    induction j with
    | zero => intro _; rfl
    | succ j ih =>
      intro hj
      rw [show k + (j + 1) = (k + j) + 1 by omega, wrK, if_pos (by rw [C.xs _ (by omega), C.rest _ (by omega) (by omega)]), ih (by omega)]
  have := go (N - k) (by omega)
  rwa [show k + (N - k) = N by omega] at this
theorem Chg.skip {q : List Int} {d : List Pt} {N k : Nat} (C : Chg q d N k) : Chg q d N (k + 1) := ⟨C.len, C.xs, C.ys, fun j h1 h2 => C.rest j (by omega) h2⟩
theorem Chg.skip_wr {q : List Int} {d : List Pt} {N k : Nat} (C : Chg q d N k) (hk : k < N) : wrK q d (k + 1) = wrK q d k := by
  rw [wrK, if_pos (by rw [C.xs k hk, C.rest k (Nat.le_refl _) hk])]
theorem Chg.change {q : List Int} {d : List Pt} {N k : Nat} (C : Chg q d N k) (hk : k < N) {y : Int} (hy : 0 ≤ y ∧ y ≤ 112) : Chg q (d.set k ((k : Int) + 1, y)) N (k + 1) := by
  have hl := C.len
  refine ⟨by simpa using hl, fun j hj => ?_, fun j hj => ?_, fun j h1 h2 => ?_⟩
  · by_cases e : j = k
    · subst e; exact (px_at _ _ (by omega)).1
    · rw [(px_set _ e).1]; exact C.xs j hj
  · by_cases e : j = k
    · subst e; rw [(px_at _ _ (by omega)).2]; exact hy
    · rw [(px_set _ e).2]; exact C.ys j hj
  · rw [(px_set _ (by omega)).2]; exact C.rest j (by omega) h2
theorem Chg.change_wr {q : List Int} {d : List Pt} {N k : Nat} (C : Chg q d N k) (hk : k < N) {y : Int} (hne : atI q ((k : Int) + 1) ≠ y) : wrK q (d.set k ((k : Int) + 1, y)) (k + 1) = wrK q d k ++ [(k : Int) + 1] := by
  have hl := C.len
  have h := px_at (d := d) (k := k) ((k : Int) + 1) y (by omega)
  rw [wrK, h.1, h.2, if_neg hne, wrK_set q d k _ k (Nat.le_refl _)]
theorem Chg.start {s : Int} {t : List Int} {N : Nat} : Chg (s :: t) (uptoF (shF (s :: t)) N) N 0 where
  len := uptoF_length _ _
  xs j hj := upto_px _ hj
  ys j hj := by rw [upto_py _ hj]; exact ⟨atI_lo _ _, atI_hi _ _⟩
  rest j _ hj := upto_py _ hj
theorem cP_setY (ps : List Pt) : ∀ (k : Nat) (x y y' : Int), ps[k]? = some (x, y) → (cP ps).set (k * 2 + 1) (.int .i64 y') = cP (ps.set k (x, y')) := by
  induction ps with
  | nil => intro k x y y' h; simp at h
  | cons a ps ih =>
    intro k x y y' h
    cases k with
    | zero =>
      simp only [List.getElem?_cons_zero, Option.some.injEq] at h
      subst h; rfl
    | succ k =>
      simp only [List.getElem?_cons_succ] at h
      have := ih k x y y' h
      rw [show (k + 1) * 2 + 1 = (k * 2 + 1) + 1 + 1 by omega]
      show (_ :: _ :: cP ps).set _ _ = _ :: _ :: cP (ps.set k (x, y'))
      rw [List.set_cons_succ, List.set_cons_succ, this]
theorem wrK_len (q : List Int) (d : List Pt) (k : Nat) : (wrK q d k).length ≤ k := wrK_le q d k
end Go.Proofs.Ytjpjmlcmaombnaa

/- Chapter 5: the program's search: read, try. -/
namespace Go.Proofs.Ytjpjmlcmaombnaa
open Go.RowKit
set_option maxRecDepth 100000

/-- the panic that bears a reading -/
def rdP (p : List Int) (v : Value) : List PanicEntry := [{ v := .iface 76 (.agg #[.int .i64 (atI p 0), v]), recovered := false }]
abbrev mdV (A : Option Addr) (n c : Nat) (b1 most : Int) : Value := .agg #[.slice A n c, .int .i64 b1, .int .i64 most]

theorem below_still {B : Nat} {w w1 w2 : World} (hs : Still w1 w2) (h : Below B w w1) : Below B w w2 := by obtain ⟨m, rfl⟩ := hs; exact below_drewN h m
set_option maxHeartbeats 2000000 in
theorem i_read_yes (A A1 : Option Addr) (n c n1 c1 : Nat) (b1 most : Int) (d : List Pt) (p : List Int) (w : World) (h : Rd w w.heap.size 2 A n (cP d)) (hn : n ≤ 1048576) (hX : XIn d n) (h' : Rd w w.heap.size 1 A1 n1 (cI p)) (hN : Nums p) (hn1 : n1 ≤ 1048576) (hm : ((wrL p d).length : Int) ≤ most) :
    Calls Try.prog 125 #[mdV A n c b1 most, .slice A1 n1 c1] w fun e w' => ∃ v, e = .panicked (rdP p v) ∧ OwIntS w' w.heap.size w'.heap.size v (wrL p d) ∧ Below w.heap.size w w' := by
  have HDN := Lib.hid h.plen
  obtain ⟨W, hW⟩ : ∃ W, Hid (w.alloc (.cells #[.slice A n c, .int .i64 b1, .int .i64 most] 79) = W) := ⟨_, Lib.hid rfl⟩
  have HB0 : Hid (Below w.heap.size w W) := Lib.hid (by rw [← hW.out]; exact (Below.refl _ _).alloc (Nat.le_refl _) _)
  have hx : W.heap[w.heap.size]? = some (.cells #[.slice A n c, .int .i64 b1, .int .i64 most] 79 (0, 0)) := by rw [← hW.out]; exact heap_alloc_new _ _
  have hc0 : W.cell? ⟨w.heap.size, 0, none⟩ = some (.slice A n c) := by rw [cell_of_row W _ 0 _ _ _ hx]; rfl
  have HX := Lib.hid hx
  have HR := Lib.hid ((h.below HB0.out).more HB0.out.size)
  have HP := Lib.hid ((h'.below HB0.out).more HB0.out.size)
  clear hx h h'
  go_enter Try.func125, Try.ntmps125
  go_wp2_with fail
  rw [hW.out]
  go_wp2_with fail
  refine (i_differing _ _ _ _ _ _ _ _ _ HP.out hN hn1 HR.out hX hn).mono ?_
  rintro e w2 ⟨v2, rfl, ho2, hb2⟩
  obtain ⟨A2, n2, c2, rfl, hn2, hnc2, _⟩ := ho2.open
  have HO2 := Lib.hid ho2
  have HB2 := Lib.hid (HB0.out.trans (hb2.mono HB0.out.size))
  have hx2 := (hb2.block _ (Array.getElem?_eq_some_iff.1 HX.out).1).trans HX.out
  have hc2 : w2.cell? ⟨w.heap.size, 2, none⟩ = some (.int .i64 most) := by rw [cell_of_row w2 _ 2 _ _ _ hx2]; rfl
  have HP2 := Lib.hid ((HP.out.below hb2).more hb2.size)
  have hL : (n2 : Int) ≤ most := by rw [hn2]; have := hm; unfold wrL at this; rw [HDN.out] at this; exact this
  have HZ := Lib.hid HB0.out.size
  clear hx2 hb2 ho2 hn2 hnc2 hm HX HR HP
  go_wp2_with fail
  refine (i_polynomial_at _ _ _ _ _ _ HP2.out hN hn1 (by omega) (by omega)).mono ?_
  rintro e w3 ⟨rfl, hst⟩
  have HS := Lib.hid hst
  clear hst
  go_wp2
  refine ⟨rfl, _, rfl, ?_, below_still HS.out HB2.out⟩
  unfold wrL; rw [HDN.out]
  exact (HO2.out.below (HS.out.below _) (Nat.le_refl _)).widen HZ.out (by rw [HS.out.sz]; exact Nat.le_refl _)

set_option maxHeartbeats 2000000 in
theorem i_read_no (A A1 : Option Addr) (n c n1 c1 : Nat) (b1 most : Int) (d : List Pt) (p : List Int) (w : World) (h : Rd w w.heap.size 2 A n (cP d)) (hn : n ≤ 1048576) (hX : XIn d n) (h' : Rd w w.heap.size 1 A1 n1 (cI p)) (hN : Nums p) (hn1 : n1 ≤ 1048576) (hm : ¬ ((wrL p d).length : Int) ≤ most) :
    Calls Try.prog 125 #[mdV A n c b1 most, .slice A1 n1 c1] w fun e w' => e = .returned (.tuple #[]) ∧ Below w.heap.size w w' := by
  have HDN := Lib.hid h.plen
  obtain ⟨W, hW⟩ : ∃ W, Hid (w.alloc (.cells #[.slice A n c, .int .i64 b1, .int .i64 most] 79) = W) := ⟨_, Lib.hid rfl⟩
  have HB0 : Hid (Below w.heap.size w W) := Lib.hid (by rw [← hW.out]; exact (Below.refl _ _).alloc (Nat.le_refl _) _)
  have hx : W.heap[w.heap.size]? = some (.cells #[.slice A n c, .int .i64 b1, .int .i64 most] 79 (0, 0)) := by rw [← hW.out]; exact heap_alloc_new _ _
  have hc0 : W.cell? ⟨w.heap.size, 0, none⟩ = some (.slice A n c) := by rw [cell_of_row W _ 0 _ _ _ hx]; rfl
  have HX := Lib.hid hx
  have HR := Lib.hid ((h.below HB0.out).more HB0.out.size)
  have HP := Lib.hid ((h'.below HB0.out).more HB0.out.size)
  clear hx h h'
  go_enter Try.func125, Try.ntmps125
  go_wp2_with fail
  rw [hW.out]
  go_wp2_with fail
  refine (i_differing _ _ _ _ _ _ _ _ _ HP.out hN hn1 HR.out hX hn).mono ?_
  rintro e w2 ⟨v2, rfl, ho2, hb2⟩
  obtain ⟨A2, n2, c2, rfl, hn2, hnc2, _⟩ := ho2.open
  have HB2 := Lib.hid (HB0.out.trans (hb2.mono HB0.out.size))
  have hx2 := (hb2.block _ (Array.getElem?_eq_some_iff.1 HX.out).1).trans HX.out
  have hc2 : w2.cell? ⟨w.heap.size, 2, none⟩ = some (.int .i64 most) := by rw [cell_of_row w2 _ 2 _ _ _ hx2]; rfl
  have hL : ¬ (n2 : Int) ≤ most := by rw [hn2]; have := hm; unfold wrL at this; rw [HDN.out] at this; omega
  clear hx2 hb2 ho2 hn2 hnc2 hm HX HR HP
  go_wp2
  go_end0
  exact ⟨rfl, HB2.out⟩
end Go.Proofs.Ytjpjmlcmaombnaa

/- Chapter 5: the program's search: try. -/
namespace Go.Proofs.Ytjpjmlcmaombnaa
open Go.RowKit
set_option maxRecDepth 100000

theorem Rd.drewHere {W : World} {size n : Nat} {A : Option Addr} {xs : List Value} (h : Rd W W.heap.size size A n xs) : Rd W.drew W.drew.heap.size size A n xs := h
/-- what try comes to: a panic with the reading, or nothing -/
def TryP (o : Option (List Int)) (d : List Pt) (lo : Nat) (e : Ending) (w' : World) : Prop := match o with
  | some p => ∃ v, e = .panicked (rdP p v) ∧ OwIntS w' lo w'.heap.size v (wrL p d)
  | none => e = .returned (.tuple #[])
theorem box3 (W : World) (A : Option Addr) (n c : Nat) (b1 most : Int) (g : Nat) (hx : W.heap[g]? = some (.cells #[.slice A n c, .int .i64 b1, .int .i64 most] 79 (0, 0))) :
    W.cell? ⟨g, 0, none⟩ = some (.slice A n c) ∧ W.cell? ⟨g, 1, none⟩ = some (.int .i64 b1) ∧ W.cell? ⟨g, 2, none⟩ = some (.int .i64 most) :=
  ⟨by rw [cell_of_row W _ 0 _ _ _ hx]; rfl, by rw [cell_of_row W _ 1 _ _ _ hx]; rfl, by rw [cell_of_row W _ 2 _ _ _ hx]; rfl⟩

set_option maxHeartbeats 4000000 in
theorem i_try_leaf (A A1 A2 : Option Addr) (n c m c1 n2 c2 : Nat) (most : Int) (d ch : List Pt) (w : World) (h : Rd w w.heap.size 2 A n (cP d)) (hn : n ≤ 7) (hX : XIn d n) (h' : Rd w w.heap.size 2 A1 m (cP ch)) (hG : GL ch) (hm2 : m ≤ 7) :
    Calls Try.prog 108 #[mdV A n c m most, .slice A1 m c1, .slice A2 n2 c2] w fun e w' => TryP (tstF d most ch) d w.heap.size e w' ∧ Below w.heap.size w w' := by
  have HDN := Lib.hid h.plen
  have HLM := Lib.hid h'.plen
  obtain ⟨W, hW⟩ : ∃ W, Hid (w.alloc (.cells #[.slice A n c, .int .i64 m, .int .i64 most] 79) = W) := ⟨_, Lib.hid rfl⟩
  have HB0 : Hid (Below w.heap.size w W) := Lib.hid (by rw [← hW.out]; exact (Below.refl _ _).alloc (Nat.le_refl _) _)
  have hx : W.heap[w.heap.size]? = some (.cells #[.slice A n c, .int .i64 m, .int .i64 most] 79 (0, 0)) := by rw [← hW.out]; exact heap_alloc_new _ _
  obtain ⟨hc0, hc1, hc2⟩ := box3 W A n c m most _ hx
  have HX := Lib.hid hx
  have HR := Lib.hid ((h.below HB0.out).more HB0.out.size)
  have HC := Lib.hid ((h'.below HB0.out).more HB0.out.size)
  have HGG : Hid (Good ch m) := Lib.hid (by have := hG.good; rw [HLM.out] at this; exact this)
  have HV : Hid ((thrI ch m).1 = thrL ch) := Lib.hid (by have := thrL_I hG; rw [HLM.out] at this; exact this)
  have HGL := Lib.hid hG
  have HXI := Lib.hid hX
  have hq : ((m : Int) == (m : Int)) = true := by simp
  clear hx h h' hG hX
  have hs0 := And.intro hc0 (And.intro hc1 hc2)
  cases hlw : decide (((wrL (thrL ch) d).length : Int) ≤ most)
  · have HT : Hid (tstF d most ch = none) := Lib.hid (by unfold tstF; rw [if_neg (of_decide_eq_false hlw)])
    have HLW := Lib.hid (of_decide_eq_false hlw)
    clear hlw
    go_enter Try.func108, Try.ntmps108
    go_wp2
    rw [hW.out]
    go_wp2
    refine wp_region_held_drew (S := fun w' => w'.cell? ⟨w.heap.size, 0, none⟩ = some (.slice A n c) ∧ w'.cell? ⟨w.heap.size, 1, none⟩ = some (.int .i64 m) ∧ w'.cell? ⟨w.heap.size, 2, none⟩ = some (.int .i64 most)) (by kernel_rfl) hs0 (fun hHeld => ?_)
    refine wpAnyH_take (i := 0) (oi := { dst := some 13, op := Op.load 79 (Operand.tmp 3), type := 79, pos := "l5_mending.go:19", after := #[], guard := none }) (v := ?_) rfl (by kernel_rfl) (by kernel_rfl) (by kernel_rfl) (fun _ _ _ h => h) (Or.inl ⟨by rfl, ?_⟩) hHeld ?_
    rotate_left
    · intro w hSw; (try dsimp only at hSw); go_simp; (try with_reducible rfl)
    try simp only [Act.put, List.setIfInBounds_toArray, List.set_cons_zero, List.set_cons_succ]
    refine wpAnyH_take (i := 1) (oi := { dst := some 14, op := Op.move (Operand.tmp 1), type := 29, pos := "l5_mending.go:19", after := #[], guard := none }) (v := ?_) rfl (by kernel_rfl) (by kernel_rfl) (by kernel_rfl) (fun _ _ _ h => h) (Or.inl ⟨by rfl, ?_⟩) hHeld ?_
    rotate_left
    · intro w hSw; (try dsimp only at hSw); go_simp; (try with_reducible rfl)
    try simp only [Act.put, List.setIfInBounds_toArray, List.set_cons_zero, List.set_cons_succ]
    refine wpAnyH_ready (rs := [2]) (by kernel_rfl) (by simp) ?_
    refine AllReadyH.cons (o := { dst := some 15, op := Op.call { callee := Callee.value (Operand.func 99), args := #[Operand.tmp 14], argTypes := #[29] }, type := 95, pos := "l5_mending.go:19", after := #[{ on := 1, ground := Ground.data }], guard := none }) rfl (fun K hK => ?_) AllReadyH.nil
    go_simp
    with_reducible refine (i_through _ _ _ _ _ HC.out.drewHere (by omega) HGG.out).mono ?_
    rintro e w2 ⟨v2, rfl, ho2, hb2⟩
    rw [HV.out] at ho2
    obtain ⟨A3, n3, c3, rfl, hn3, hnc3, ho3⟩ := ho2.open
    have hb2' : Below W.heap.size W w2 := ⟨hb2.os, hb2.tape, hb2.output, hb2.size, hb2.block⟩
    have HP2 : Hid (Rd w2 w2.heap.size 1 A3 n3 (cI (thrL ch))) := Lib.hid ho3.rd
    have HB2 : Hid (Below w.heap.size w w2) := Lib.hid (HB0.out.trans (hb2'.mono HB0.out.size))
    have HR2 : Hid (Rd w2 w2.heap.size 2 A n (cP d)) := Lib.hid ((HR.out.below hb2').more hb2'.size)
    have HZ2 : Hid (W.heap.size ≤ w2.heap.size) := Lib.hid hb2'.size
    obtain ⟨hd0, hd1, hd2⟩ := box3 w2 A n c m most _ ((hb2'.block _ (Array.getElem?_eq_some_iff.1 HX.out).1).trans HX.out)
    have hn3' : n3 ≤ 1048576 := by have := thrL_len ch; rw [HLM.out] at this; omega
    clear ho2 ho3 hn3 hnc3 hb2 hb2'
    refine hK.out _ _ ⟨hd0, hd1, hd2⟩ (fun hHeld => ?_)
    clear hK K
    try simp only [Act.put, List.setIfInBounds_toArray, List.set_cons_zero, List.set_cons_succ]
    refine wpAnyH_ready (rs := [3]) (by kernel_rfl) (by simp) ?_
    refine AllReadyH.cons (o := { dst := some 16, op := Op.call { callee := Callee.value (Operand.func 125), args := #[Operand.tmp 13, Operand.tmp 15], argTypes := #[79, 95] }, type := 0, pos := "l5_mending.go:19", after := #[{ on := 0, ground := Ground.data }, { on := 2, ground := Ground.data }, { on := 2, ground := Ground.chain }], guard := none }) rfl (fun K hK => ?_) AllReadyH.nil
    go_simp
    refine (i_read_no _ _ _ _ _ _ _ _ _ _ _ HR2.out (by omega) HXI.out HP2.out (thrL_nums ch) hn3' (by have := HLW.out; omega)).mono ?_
    rintro e w3 ⟨rfl, hb3⟩
    have HB3 := Lib.hid (HB2.out.trans (hb3.mono HB2.out.size))
    have hz2 : w.heap.size < w2.heap.size := by
      have h1 := (Array.getElem?_eq_some_iff.1 HX.out).1
      exact Nat.lt_of_lt_of_le h1 HZ2.out
    have he0 := (hb3.cell (p := ⟨w.heap.size, 0, none⟩) hz2).trans hd0
    have he1 := (hb3.cell (p := ⟨w.heap.size, 1, none⟩) hz2).trans hd1
    have he2 := (hb3.cell (p := ⟨w.heap.size, 2, none⟩) hz2).trans hd2
    clear hb3
    refine hK.out _ _ ⟨he0, he1, he2⟩ (fun hHeld => ?_)
    clear hK K
    try simp only [Act.put, List.setIfInBounds_toArray, List.set_cons_zero, List.set_cons_succ]
    refine wpAnyH_done (by kernel_rfl) ?_ _
    clear hd0 hd1 hd2 he0 he1 he2 hHeld
    go_wp2
    refine bodyPost_ret (results_none rfl _ _ _) rfl ?_
    exact ⟨by rw [HT.out]; rfl, HB3.out⟩
  · have HT : Hid (tstF d most ch = some (thrL ch)) := Lib.hid (by unfold tstF; rw [if_pos (of_decide_eq_true hlw)])
    have HLW := Lib.hid (of_decide_eq_true hlw)
    clear hlw
    go_enter Try.func108, Try.ntmps108
    go_wp2
    rw [hW.out]
    go_wp2
    refine wp_region_held_drew (S := fun w' => w'.cell? ⟨w.heap.size, 0, none⟩ = some (.slice A n c) ∧ w'.cell? ⟨w.heap.size, 1, none⟩ = some (.int .i64 m) ∧ w'.cell? ⟨w.heap.size, 2, none⟩ = some (.int .i64 most)) (by kernel_rfl) hs0 (fun hHeld => ?_)
    refine wpAnyH_take (i := 0) (oi := { dst := some 13, op := Op.load 79 (Operand.tmp 3), type := 79, pos := "l5_mending.go:19", after := #[], guard := none }) (v := ?_) rfl (by kernel_rfl) (by kernel_rfl) (by kernel_rfl) (fun _ _ _ h => h) (Or.inl ⟨by rfl, ?_⟩) hHeld ?_
    rotate_left
    · intro w hSw; (try dsimp only at hSw); go_simp; (try with_reducible rfl)
    try simp only [Act.put, List.setIfInBounds_toArray, List.set_cons_zero, List.set_cons_succ]
    refine wpAnyH_take (i := 1) (oi := { dst := some 14, op := Op.move (Operand.tmp 1), type := 29, pos := "l5_mending.go:19", after := #[], guard := none }) (v := ?_) rfl (by kernel_rfl) (by kernel_rfl) (by kernel_rfl) (fun _ _ _ h => h) (Or.inl ⟨by rfl, ?_⟩) hHeld ?_
    rotate_left
    · intro w hSw; (try dsimp only at hSw); go_simp; (try with_reducible rfl)
    try simp only [Act.put, List.setIfInBounds_toArray, List.set_cons_zero, List.set_cons_succ]
    refine wpAnyH_ready (rs := [2]) (by kernel_rfl) (by simp) ?_
    refine AllReadyH.cons (o := { dst := some 15, op := Op.call { callee := Callee.value (Operand.func 99), args := #[Operand.tmp 14], argTypes := #[29] }, type := 95, pos := "l5_mending.go:19", after := #[{ on := 1, ground := Ground.data }], guard := none }) rfl (fun K hK => ?_) AllReadyH.nil
    go_simp
    with_reducible refine (i_through _ _ _ _ _ HC.out.drewHere (by omega) HGG.out).mono ?_
    rintro e w2 ⟨v2, rfl, ho2, hb2⟩
    rw [HV.out] at ho2
    obtain ⟨A3, n3, c3, rfl, hn3, hnc3, ho3⟩ := ho2.open
    have hb2' : Below W.heap.size W w2 := ⟨hb2.os, hb2.tape, hb2.output, hb2.size, hb2.block⟩
    have HP2 : Hid (Rd w2 w2.heap.size 1 A3 n3 (cI (thrL ch))) := Lib.hid ho3.rd
    have HB2 : Hid (Below w.heap.size w w2) := Lib.hid (HB0.out.trans (hb2'.mono HB0.out.size))
    have HR2 : Hid (Rd w2 w2.heap.size 2 A n (cP d)) := Lib.hid ((HR.out.below hb2').more hb2'.size)
    have HZ2 : Hid (W.heap.size ≤ w2.heap.size) := Lib.hid hb2'.size
    obtain ⟨hd0, hd1, hd2⟩ := box3 w2 A n c m most _ ((hb2'.block _ (Array.getElem?_eq_some_iff.1 HX.out).1).trans HX.out)
    have hn3' : n3 ≤ 1048576 := by have := thrL_len ch; rw [HLM.out] at this; omega
    clear ho2 ho3 hn3 hnc3 hb2 hb2'
    refine hK.out _ _ ⟨hd0, hd1, hd2⟩ (fun hHeld => ?_)
    clear hK K
    try simp only [Act.put, List.setIfInBounds_toArray, List.set_cons_zero, List.set_cons_succ]
    refine wpAnyH_ready (rs := [3]) (by kernel_rfl) (by simp) ?_
    refine AllReadyH.cons (o := { dst := some 16, op := Op.call { callee := Callee.value (Operand.func 125), args := #[Operand.tmp 13, Operand.tmp 15], argTypes := #[79, 95] }, type := 0, pos := "l5_mending.go:19", after := #[{ on := 0, ground := Ground.data }, { on := 2, ground := Ground.data }, { on := 2, ground := Ground.chain }], guard := none }) rfl (fun K hK => ?_) AllReadyH.nil
    go_simp
    refine (i_read_yes _ _ _ _ _ _ _ _ _ _ _ HR2.out (by omega) HXI.out HP2.out (thrL_nums ch) hn3' (by have := HLW.out; exact this)).mono ?_
    rintro e w3 ⟨v3, rfl, ho3, hb3⟩
    have HB3 := Lib.hid (HB2.out.trans (hb3.mono HB2.out.size))
    have HO3 := Lib.hid (ho3.widen (Nat.le_trans HB0.out.size HZ2.out) (Nat.le_refl _))
    clear hb3 ho3 hd0 hd1 hd2 hHeld hK
    go_wp2
    exact ⟨rfl, by rw [HT.out]; exact ⟨_, rfl, HO3.out⟩, HB3.out⟩
end Go.Proofs.Ytjpjmlcmaombnaa

/- append onto a row that is read again later: the way back to the shorter row, whatever is done to the longer one. -/
namespace Go.Proofs.Ytjpjmlcmaombnaa
open Go.RowKit

section
variable {P : Program} {w : World}
theorem own_shorter {w4 : World} {base e size n m g cap : Nat} {xs news : List Value} (hl : xs.length = n * size) (h : w4.ownsRow base e size (.slice (some ⟨g, 0, none⟩) (n + m) cap) (n + m) (xs ++ news)) :
    w4.ownsRow base e size (.slice (some ⟨g, 0, none⟩) n cap) n xs := by
  refine ⟨hl, .inr ?_⟩
  rcases h.2 with ⟨hv, _⟩ | ⟨g', cap', cur, hv, hb, hh, hn, hc, hs, ht⟩
  · cases hv
  · injection hv with h1 h2 h3
    injection h1 with h1; injection h1 with h1
    subst h1; subst h3
    refine ⟨g, cap, cur, rfl, hb, hh, by omega, hc, hs, ?_⟩
    have := congrArg (List.take (n * size)) ht
    rw [List.take_take, Nat.min_eq_left (Nat.mul_le_mul_right _ (by omega)), ← hl, List.take_left] at this
    rw [hl] at this; exact this

theorem run_append_back (base : Nat) (t ty e : TypeId) (z : Value) (size bytes : Nat) (ht : P.underlying t = some (.slice e)) (hi : (P.info? e).map (fun i => (i.zero, i.size, i.bytes)) = some (some z, size, bytes))
    (hzs : z.cells.size = size) (hsz : 0 < size) (v : Value) (n : Nat) (xs : List Value) (hown : w.ownsRow base e size v n xs)
    (ad : Addr) (m c : Nat) (news : List Value) (hl : news.length = m * size) (hnews : ∀ j u, news[j]? = some u → w.cell? (ad.add j) = some u) (h1 : ∀ u ∈ news, u.oneCell' = true)
    (h63 : n + m ≤ maxLen) (hbytes : (n + m) * bytes ≤ 140737488355328) (hbase : base ≤ w.heap.size) :
    ∃ A' c' w', (Builtin.append_ #[t, t] ty #[v, .slice (some ad) m c]).run P w = .ok (.slice A' (n + m) c') w' ∧ w'.ownsRow base e size (.slice A' (n + m) c') (n + m) (xs ++ news) ∧ w.grownBy w' v.ownBlock ∧
      ((Value.ownBlock (.slice A' (n + m) c')) = v.ownBlock ∨ (Value.ownBlock (.slice A' (n + m) c')) = some w.heap.size) ∧
      (∀ w4, w'.grownBy w4 (Value.ownBlock (.slice A' (n + m) c')) → w4.ownsRow base e size (.slice A' (n + m) c') (n + m) (xs ++ news) → w.grownBy w4 v.ownBlock ∧ w4.ownsRow base e size v n xs) := by
  obtain ⟨i, hii, hz0, hz1, hz2⟩ := info_parts hi
  clear hi
  obtain ⟨v', w', hr, h2, h3, _, h5⟩ := run_append_own_at (P := P) w base t ty e i z size bytes ht hii hz0 hz1 hz2 hzs hsz v n xs hown ad m c news hl hnews h1 h63 hbytes hbase
  obtain ⟨A', c', rfl, ho⟩ := Ow.of_own h2
  refine ⟨A', c', w', hr, h2, h3, h5, fun w4 hg ho4 => ?_⟩
  have hgr : w.grownBy w4 v.ownBlock := h3.andThen hg (fun j hj => by
    rcases h5 with h5 | h5
    · exact .inr (h5.symm.trans hj)
    · rw [h5] at hj; injection hj with hj; exact .inl (by omega))
  refine ⟨hgr, ?_⟩
  rcases hown.2 with ⟨rfl, rfl⟩ | ⟨g, cap, cur, rfl, hbg, hg0, hnc, hcm, hcs, htake⟩
  · have hx : xs = [] := List.eq_nil_of_length_eq_zero (by simpa using hown.1)
    subst hx; exact World.ownsRow_nil _ _ _ _
  · by_cases hroom : n + m ≤ cap
    · subst hz1
      have hfit : n * i.size + news.length ≤ cur.size := by rw [hl, hcs, ← Nat.add_mul]; exact Nat.mul_le_mul_right _ hroom
      have hr2 := run_append_room (P := P) w t ty e i ht hii g n cap cur hg0 ad m c news hl hnews h1 hroom hfit
      rw [hr] at hr2
      injection hr2 with hr2 _
      injection hr2 with e1 _ e3
      subst e1; subst e3
      exact own_shorter hown.1 ho4
    · subst hz1; subst hz2
      have holds : ∀ j u, xs[j]? = some u → w.cell? ((⟨g, 0, none⟩ : Addr).add j) = some u := hown.cells (g := g) rfl
      have hr3 := run_append_grow (P := P) w t ty e i z ht hii hz0 ⟨g, 0, none⟩ n cap xs hown.1 holds ad m c news hl hnews (by omega) (by simp only [maxLen] at h63; omega) (growslice_fits (by omega) hbytes)
      rw [hr] at hr3
      injection hr3 with hv hw
      injection hv with e1 _ _
      have hlt := (Array.getElem?_eq_some_iff.1 hg0).1
      subst e1
      refine ⟨hown.1, .inr ⟨g, cap, cur, rfl, hbg, ?_, hnc, hcm, hcs, htake⟩⟩
      rw [hg.block g (Nat.lt_of_lt_of_le hlt h3.size) (by simp [Value.ownBlock]; omega), hw]
      exact (Below.heap_alloc w.drew _ g hlt).trans hg0
end
end Go.Proofs.Ytjpjmlcmaombnaa

/- Chapter 5: the program's search: try, whole. -/
namespace Go.Proofs.Ytjpjmlcmaombnaa
open Go.RowKit
set_option maxRecDepth 100000

section
variable {ops : Array Oper} {o : Oper} {a : Act} {K : Act → World → Prop} {Q : Exit → Act → World → Prop} {E : Prop} {W : World}
/-- append(v, Point), v read again later -/
theorem step_back (hgd : o.guard = none) (s x : Operand)
    (ho : o.op = .call { callee := .builtin .append, args := #[s, x], argTypes := #[29, 29] })
    {base g m c : Nat} {A : Option Addr} {zs : List Pt} {p q : Int} (hs : a.eval s = .slice A m c) (hx : a.eval x = .slice (some ⟨g, 0, none⟩) 1 1) (hown : W.ownsRow base 53 2 (.slice A m c) m (cP zs))
    (hl : W.heap[g]? = some (.cells #[.int .i64 p, .int .i64 q] 53 (0, 0))) (hm : m ≤ 1000) (hbase : base ≤ W.heap.size)
    (h : ∀ A' c' w', Hid (w'.ownsRow base 53 2 (.slice A' (m + 1) c') (m + 1) (cP (zs ++ [(p, q)]))) → Hid (W.grownBy w' (Value.ownBlock (.slice A m c))) → Hid (Value.ownBlock (.slice A' (m + 1) c') = Value.ownBlock (.slice A m c) ∨ Value.ownBlock (.slice A' (m + 1) c') = some W.heap.size) →
      Hid (∀ w4, w'.grownBy w4 (Value.ownBlock (.slice A' (m + 1) c')) → w4.ownsRow base 53 2 (.slice A' (m + 1) c') (m + 1) (cP (zs ++ [(p, q)])) → W.grownBy w4 (Value.ownBlock (.slice A m c)) ∧ w4.ownsRow base 53 2 (.slice A m c) m (cP zs)) → K (a.put o.dst (.slice A' (m + 1) c')) w') :
    if Region.wanted o (yielded ops a.tmps) = true then Oper.wp Try.prog o a W K Q else E := by
  have hw : Region.wanted o (yielded ops a.tmps) = true := by simp [Region.wanted, hgd]
  rw [if_pos hw]
  have hrd := lit_pt_at hl
  obtain ⟨A', c', w', hrun, h2, h3, h5, h6⟩ := run_append_back (P := Try.prog) (w := W) base 29 o.type 53 _ 2 16 Try.underlying29 info_pt rfl (by decide) (.slice A m c) m (cP zs) hown ⟨g, 0, none⟩ 1 1 (cP [(p, q)]) rfl (by
    obtain ⟨ad, e, _, hc⟩ := hrd.2 (by omega)
    injection e with e; subst e; exact hc) (cP_one _) (by unfold maxLen; omega) (by omega) hbase
  unfold Oper.wp execOp
  simp only [ho, resolve, invoke, builtin, Sem.run_bind, Sem.run_pure, Result.andThen_ok, List.map_toArray, List.map_cons, List.map_nil, hs, hx, hrun]
  rw [show cP zs ++ cP [(p, q)] = cP (zs ++ [(p, q)]) by rw [cP_append]] at h2 h6
  exact h A' c' w' (Lib.hid h2) (Lib.hid h3) (Lib.hid h5) (Lib.hid h6)
end
theorem add_add (a : Addr) (i j : Nat) : (a.add i).add j = a.add (i + j) := by
  unfold Addr.add
  by_cases hi : i = 0
  · subst hi; simp
  · by_cases hj : j = 0
    · subst hj; simp [hi]
    · simp [hi, hj, Nat.add_assoc]
/-- points cut off at the front -/
theorem Rd.cutP {w : World} {hi n c k : Nat} {a : Addr} {ps : List Pt} (h : Rd w hi 2 (some a) n (cP ps)) (hnc : n ≤ c) (hk : k ≤ n) : Rd w hi 2 (if c = k then some a else some (a.add (k * 2))) (n - k) (cP (ps.drop k)) := by
  have hl := h.plen
  refine ⟨by rw [cP_length, List.length_drop]; omega, fun h0 => ?_⟩
  rw [if_neg (by omega)]
  obtain ⟨a', e, hb, hc⟩ := h.2 (by omega)
  injection e with e; subst e
  refine ⟨_, rfl, by rw [add_block]; exact hb, fun j u hj => ?_⟩
  rw [add_add]
  refine hc _ _ ?_
  rw [← hj, show ps = ps.take k ++ ps.drop k from (List.take_append_drop k ps).symm, cP_append, List.getElem?_append_right (by rw [cP_length, List.length_take]; omega), cP_length, List.length_take, List.drop_append_of_le_length (by rw [List.length_take]; omega)]
  have : (ps.take k).drop k = [] := List.drop_eq_nil_of_le (by rw [List.length_take]; omega)
  rw [this, List.nil_append]; congr 1; omega
theorem keepR {w w' : World} {row : Option Nat} {hi size n base : Nat} {A : Option Addr} {xs : List Value} (h : Rd w hi size A n xs) (hg : w.grownBy w' row) (hr : ∀ g, row = some g → base ≤ g) (hb : hi ≤ base) (hz : hi ≤ w.heap.size) : Rd w' hi size A n xs :=
  h.keep fun p hp => World.cell?_of_block (hg.block _ (by omega) (fun e => by have := hr _ e.symm; omega))
theorem row_base {w : World} {base n m c : Nat} {A : Option Addr} {xs : List Value} {t : TypeId} {s : Nat} (h : w.ownsRow base t s (.slice A m c) n xs) : ∀ g, Value.ownBlock (.slice A m c) = some g → base ≤ g ∧ g < w.heap.size := fun g e => h.lt g e

set_option maxHeartbeats 8000000 in
theorem i_try (A : Option Addr) (n c b1 base lo : Nat) (most : Int) (d : List Pt) (hdn : d.length = n) (hn : n ≤ 7) (hd : GL d) (hlo : lo ≤ base) (n2 : Nat) :
    ∀ (rest ch : List Pt) (A1 A2 : Option Addr) (m c1 c2 : Nat) (w : World), GL (ch ++ rest) → ch.length = m → m ≤ b1 → b1 ≤ 7 → rest.length = n2 → n2 ≤ 7 → n2 ≤ c2 → base ≤ w.heap.size → w.ownsRow base 53 2 (.slice A1 m c1) m (cP ch) → Rd w lo 2 A n (cP d) → Rd w lo 2 A2 n2 (cP rest) →
    Calls Try.prog 108 #[mdV A n c b1 most, .slice A1 m c1, .slice A2 n2 c2] w fun e w' => TryP (sF d b1 most rest ch) d w.heap.size e w' ∧ w.grownBy w' (Value.ownBlock (.slice A1 m c1)) ∧ w'.ownsRow base 53 2 (.slice A1 m c1) m (cP ch) := by
  have HD := Lib.hid hd
  have HDN := Lib.hid hdn
  have HXI : Hid (XIn d n) := Lib.hid (by have := hd.good.x0; rw [hdn] at this; exact this)
  clear hd hdn
  induction n2 using Nat.strongRecOn with
  | _ n2 ih =>
    intro rest ch A1 A2 m c1 c2 w hgl hlm hm hb7 hrl hn2 hc2 hbw hown h h2
    by_cases hleaf : m = b1
    · subst hleaf
      refine (i_try_leaf A A1 A2 n c m c1 n2 c2 most d ch w (h.more (by omega)) hn HXI.out (own_rd2 hown (Nat.le_refl _)) (hgl.sub (List.sublist_append_left ch rest)) (by omega)).mono ?_
      rintro e w' ⟨ht, hb⟩
      rw [sF_leaf hlm]
      exact ⟨ht, ⟨hb.os, hb.tape, hb.output, hb.size, fun k hk _ => hb.block k hk⟩, ownsRow_below hown hb⟩
    have HIH := Lib.hid ih
    have HGL := Lib.hid hgl
    have HLM := Lib.hid hlm
    have HRL := Lib.hid hrl
    have HNE : Hid (ch.length ≠ b1) := Lib.hid (by rw [hlm]; exact hleaf)
    have hq : ((m : Int) == (b1 : Int)) = false := by rw [beq_eq_false_iff_ne]; omega
    have hmb : m < b1 := by omega
    have HRB := Lib.hid (row_base hown)
    obtain ⟨W, hW⟩ : ∃ W, Hid (w.alloc (.cells #[.slice A n c, .int .i64 b1, .int .i64 most] 79) = W) := ⟨_, Lib.hid rfl⟩
    have HGW : Hid (w.grownBy W (Value.ownBlock (.slice A1 m c1))) := Lib.hid (by rw [← hW.out]; exact World.grownBy_alloc _ _ _)
    have HOW : Hid (W.ownsRow base 53 2 (.slice A1 m c1) m (cP ch)) := Lib.hid (by rw [← hW.out]; exact hown.alloc _)
    have hx : W.heap[w.heap.size]? = some (.cells #[.slice A n c, .int .i64 b1, .int .i64 most] 79 (0, 0)) := by rw [← hW.out]; exact heap_alloc_new _ _
    obtain ⟨hc0, hc1, hc2'⟩ := box3 W A n c b1 most _ hx
    have HX := Lib.hid hx
    have H := Lib.hid h
    have H2 := Lib.hid h2
    clear ih hgl hlm hrl hleaf hown hx h h2 hm
    go_enter Try.func108, Try.ntmps108
    go_wp2
    rw [hW.out]
    go_wp2
    clear hc0 hc1 hc2'
    go_loopw [19] (fun i wr => ∃ j : Nat, j ≤ n2 ∧ i = .int .i64 j ∧ Hid (sF d b1 most rest ch = sF d b1 most (rest.drop j) ch) ∧ Hid (w.grownBy wr (Value.ownBlock (.slice A1 m c1))) ∧ Hid (wr.ownsRow base 53 2 (.slice A1 m c1) m (cP ch)) ∧ Hid (wr.heap[w.heap.size]? = some (.cells #[.slice A n c, .int .i64 b1, .int .i64 most] 79 (0, 0)))) (fun i _ => n2 - (intOf i).toNat)
    case atStart => exact ⟨0, Nat.zero_le _, rfl, Lib.hid rfl, HGW, HOW, HX⟩
    case round =>
      clear HGW HOW HX
      obtain ⟨j, hj, rfl, HE, HG, HO, HBX⟩ := hrel
      by_cases hlt : j < n2
      · obtain ⟨a, x, y, rfl, hab, hx0, hy0, HP⟩ := H2.out.ptAt hlt
        have hne : ∀ p : Addr, p.block < lo → wr.cell? p = w.cell? p := fun p hp => World.cell?_of_block (HG.out.block _ (by omega) (fun e => by have := (HRB.out _ e.symm).1; omega))
        have hpx := (hne (a.add (j * 2)) (by rw [add_block]; exact hab)).trans hx0
        have hpy := (hne ⟨(a.add (j * 2)).block, (a.add (j * 2)).off + 1, none⟩ (by rw [add_block]; exact hab)).trans hy0
        have HDR : Hid (rest.drop j = (x, y) :: rest.drop (j + 1)) := Lib.hid (by rw [drop_step rest j (by rw [HRL.out]; exact hlt), HP.out])
        have HGN : Hid (GL ((ch ++ [(x, y)]) ++ rest.drop (j + 1))) := Lib.hid (HGL.out.sub (by
          rw [List.append_assoc, List.singleton_append, ← HDR.out]
          have := drop_sub rest ch (Nat.zero_le j)
          simpa using this))
        have HRr : Hid (Rd wr lo 2 (some a) n2 (cP rest)) := Lib.hid (H2.out.keep hne)
        have HRd : Hid (Rd wr lo 2 A n (cP d)) := Lib.hid (H.out.keep hne)
        have hzw := HG.out.size
        obtain ⟨A3, HA3⟩ : ∃ A3, Hid (A3 = if c2 = j + 1 then some a else some (a.add ((j + 1) * 2))) := ⟨_, Lib.hid rfl⟩
        have HR3 : Hid (Rd wr lo 2 A3 (n2 - (j + 1)) (cP (rest.drop (j + 1)))) := Lib.hid (by rw [HA3.out]; exact HRr.out.cutP hc2 hlt)
        clear hne hx0 hy0 HRr
        have i0 : (0 : Int) ≤ (j : Int) := by omega
        have i1 : (j : Int) < (n2 : Int) := by omega
        have i2 : (0 : Int) ≤ (j : Int) + 1 := by omega
        have i3 : (j : Int) + 1 ≤ (n2 : Int) := by omega
        have iw : IntKind.i64.wrap ((j : Int) + 1) = (j : Int) + 1 := IntWalk.i64_in _ (by omega)
        have it : ((j : Int) + 1).toNat = j + 1 := by omega
        go_wp2
        obtain ⟨W1, hW1⟩ : ∃ W1, Hid (wr.alloc (.cells #[.int .i64 x, .int .i64 y] 53) = W1) := ⟨_, Lib.hid rfl⟩
        rw [hW1.out]
        have hgz := (Array.getElem?_eq_some_iff.1 HBX.out).1
        have HBX1 : Hid (W1.heap[w.heap.size]? = some (.cells #[.slice A n c, .int .i64 b1, .int .i64 most] 79 (0, 0))) := Lib.hid (by rw [← hW1.out, Below.heap_alloc _ _ _ hgz]; exact HBX.out)
        have HPX1 : Hid (W1.heap[wr.heap.size]? = some (.cells #[.int .i64 x, .int .i64 y] 53 (0, 0))) := Lib.hid (by rw [← hW1.out]; exact heap_alloc_new _ _)
        have HG1 : Hid (w.grownBy W1 (Value.ownBlock (.slice A1 m c1))) := Lib.hid (by rw [← hW1.out]; exact HG.out.trans (World.grownBy_alloc _ _ _))
        have HO1 : Hid (W1.ownsRow base 53 2 (.slice A1 m c1) m (cP ch)) := Lib.hid (by rw [← hW1.out]; exact HO.out.alloc _)
        have HB1 : Hid (Below wr.heap.size wr W1) := Lib.hid (by rw [← hW1.out]; exact (Below.refl _ _).alloc (Nat.le_refl _) _)
        have HZ1 : Hid (W1.heap.size = wr.heap.size + 1) := Lib.hid (by rw [← hW1.out]; simp)
        obtain ⟨hc0, hc1, hc2'⟩ := box3 W1 A n c b1 most _ HBX1.out
        have hd0 : W1.cell? ⟨wr.heap.size, 0, none⟩ = some (.int .i64 x) := by rw [cell_of_row W1 _ 0 _ _ _ HPX1.out]; rfl
        have hd1 : W1.cell? ⟨wr.heap.size, 1, none⟩ = some (.int .i64 y) := by rw [cell_of_row W1 _ 1 _ _ _ HPX1.out]; rfl
        have hs0 := And.intro hc0 (And.intro hc1 (And.intro hc2' (And.intro hd0 hd1)))
        clear HBX HG HO hpx hpy
        cases hs : sF d b1 most (rest.drop (j + 1)) (ch ++ [(x, y)]) with
        | none =>
          have HSV : Hid (sF d b1 most (rest.drop (j + 1)) (ch ++ [(x, y)]) = none) := Lib.hid hs
          clear hs
          refine wp_region_held_drew (S := (fun w' => w'.cell? ⟨w.heap.size, 0, none⟩ = some (.slice A n c) ∧ w'.cell? ⟨w.heap.size, 1, none⟩ = some (.int .i64 b1) ∧ w'.cell? ⟨w.heap.size, 2, none⟩ = some (.int .i64 most) ∧ w'.cell? ⟨wr.heap.size, 0, none⟩ = some (.int .i64 x) ∧ w'.cell? ⟨wr.heap.size, 1, none⟩ = some (.int .i64 y))) (by kernel_rfl) hs0 (fun hHeld => ?_)
          refine wpAnyH_take (i := 0) (oi := { dst := some 24, op := Op.load 79 (Operand.tmp 3), type := 79, pos := "l5_mending.go:23", after := #[], guard := none }) (v := ?_) rfl (by kernel_rfl) (by kernel_rfl) (by kernel_rfl) (fun _ _ _ h => h) (Or.inl ⟨by rfl, ?_⟩) hHeld ?_
          rotate_left
          · intro w hSw; (try dsimp only at hSw); go_simp; (try with_reducible rfl)
          try simp only [Act.put, List.setIfInBounds_toArray, List.set_cons_zero, List.set_cons_succ]
          refine wpAnyH_take (i := 1) (oi := { dst := some 25, op := Op.move (Operand.tmp 1), type := 29, pos := "l5_mending.go:23", after := #[], guard := none }) (v := ?_) rfl (by kernel_rfl) (by kernel_rfl) (by kernel_rfl) (fun _ _ _ h => h) (Or.inl ⟨by rfl, ?_⟩) hHeld ?_
          rotate_left
          · intro w hSw; (try dsimp only at hSw); go_simp; (try with_reducible rfl)
          try simp only [Act.put, List.setIfInBounds_toArray, List.set_cons_zero, List.set_cons_succ]
          refine wpAnyH_take (i := 2) (oi := { dst := some 26, op := Op.load 53 (Operand.tmp 7), type := 53, pos := "l5_mending.go:23", after := #[], guard := none }) (v := ?_) rfl (by kernel_rfl) (by kernel_rfl) (by kernel_rfl) (fun _ _ _ h => h) (Or.inl ⟨by rfl, ?_⟩) hHeld ?_
          rotate_left
          · intro w hSw; (try dsimp only at hSw); go_simp; (try with_reducible rfl)
          try simp only [Act.put, List.setIfInBounds_toArray, List.set_cons_zero, List.set_cons_succ]
          refine wpAnyH_take (i := 5) (oi := { dst := some 29, op := Op.move (Operand.tmp 2), type := 29, pos := "l5_mending.go:23", after := #[], guard := none }) (v := ?_) rfl (by kernel_rfl) (by kernel_rfl) (by kernel_rfl) (fun _ _ _ h => h) (Or.inl ⟨by rfl, ?_⟩) hHeld ?_
          rotate_left
          · intro w hSw; (try dsimp only at hSw); go_simp; (try with_reducible rfl)
          try simp only [Act.put, List.setIfInBounds_toArray, List.set_cons_zero, List.set_cons_succ]
          refine wpAnyH_take (i := 6) (oi := { dst := some 30, op := Op.move (Operand.tmp 6), type := 3, pos := "l5_mending.go:23", after := #[], guard := none }) (v := ?_) rfl (by kernel_rfl) (by kernel_rfl) (by kernel_rfl) (fun _ _ _ h => h) (Or.inl ⟨by rfl, ?_⟩) hHeld ?_
          rotate_left
          · intro w hSw; (try dsimp only at hSw); go_simp; (try with_reducible rfl)
          try simp only [Act.put, List.setIfInBounds_toArray, List.set_cons_zero, List.set_cons_succ]
          refine wpAnyH_take (i := 7) (oi := { dst := some 31, op := Op.binOp BinOp.add 3 (Operand.tmp 30) (Operand.const (Value.int IntKind.i64 1)) 3, type := 3, pos := "l5_mending.go:23", after := #[{ on := 6, ground := Ground.data }], guard := none }) (v := ?_) rfl (by kernel_rfl) (by kernel_rfl) (by kernel_rfl) (fun _ _ _ h => h) (Or.inl ⟨by rfl, ?_⟩) hHeld ?_
          rotate_left
          · intro w hSw; (try dsimp only at hSw); go_simp; (try with_reducible rfl)
          try simp only [Act.put, List.setIfInBounds_toArray, List.set_cons_zero, List.set_cons_succ]
          refine wpAnyH_take (i := 8) (oi := { dst := some 32, op := Op.slice 29 (Operand.tmp 29) (some (Operand.tmp 31)) none none, type := 29, pos := "l5_mending.go:23", after := #[{ on := 5, ground := Ground.data }, { on := 7, ground := Ground.data }], guard := none }) (v := .slice A3 (n2 - (j + 1)) (c2 - (j + 1))) rfl (by kernel_rfl) (by kernel_rfl) (by kernel_rfl) (fun _ _ _ h => h) (Or.inl ⟨by rfl, ?_⟩) hHeld ?_
          · intro w hSw; clear hSw; go_simp; simp only [HA3.out]
          try simp only [Act.put, List.setIfInBounds_toArray, List.set_cons_zero, List.set_cons_succ]
          refine wpAnyH_ready (rs := [3]) (by kernel_rfl) (by simp) ?_
          refine AllReadyH.cons (o := { dst := some 27, op := Op.buildSlice 29 1 #[(0, Operand.tmp 26)], type := 29, pos := "l5_mending.go:23", after := #[{ on := 2, ground := Ground.data }], guard := none }) rfl (fun K hK => ?_) AllReadyH.nil
          go_simp
          obtain ⟨W2, hW2⟩ : ∃ W2, Hid ((W1.alloc (.cells #[.int .i64 x, .int .i64 y] 53)).drew = W2) := ⟨_, Lib.hid rfl⟩
          rw [hW2.out]
          have HAL : Hid (wr.grownBy W2 (Value.ownBlock (.slice A1 m c1))) := Lib.hid (by
            have h9 : wr.grownBy (W1.alloc (.cells #[.int .i64 x, .int .i64 y] 53)) (Value.ownBlock (.slice A1 m c1)) := by
              rw [← hW1.out]; exact (World.grownBy_alloc _ _ _).trans (World.grownBy_alloc _ _ _)
            rw [← hW2.out]; exact ⟨h9.os, h9.tape, h9.output, h9.size, h9.block⟩)
          have HG2 : Hid (w.grownBy W2 (Value.ownBlock (.slice A1 m c1))) := Lib.hid (by
            have h9 := HG1.out.trans (World.grownBy_alloc W1 (.cells #[.int .i64 x, .int .i64 y] 53) _)
            rw [← hW2.out]; exact ⟨h9.os, h9.tape, h9.output, h9.size, h9.block⟩)
          have HO2 : Hid (W2.ownsRow base 53 2 (.slice A1 m c1) m (cP ch)) := Lib.hid (by rw [← hW2.out]; exact HO1.out.alloc _)
          have HZ2 : Hid (W2.heap.size = W1.heap.size + 1) := Lib.hid (by rw [← hW2.out]; simp)
          have HBX2 : Hid (W2.heap[w.heap.size]? = some (.cells #[.slice A n c, .int .i64 b1, .int .i64 most] 79 (0, 0))) := Lib.hid (by rw [← hW2.out]; exact (Below.heap_alloc W1 _ _ (by have := HZ1.out; omega)).trans HBX1.out)
          have HPX2 : Hid (W2.heap[wr.heap.size]? = some (.cells #[.int .i64 x, .int .i64 y] 53 (0, 0))) := Lib.hid (by rw [← hW2.out]; exact (Below.heap_alloc W1 _ _ (by have := HZ1.out; omega)).trans HPX1.out)
          have HLX2 : Hid (W2.heap[W1.heap.size]? = some (.cells #[.int .i64 x, .int .i64 y] 53 (0, 0))) := Lib.hid (by rw [← hW2.out]; exact heap_alloc_new W1 _)
          refine hK.out _ _ ?_ (fun hHeld => ?_)
          · obtain ⟨e0, e1, e2⟩ := box3 W2 A n c b1 most _ HBX2.out
            exact ⟨e0, e1, e2, by rw [cell_of_row W2 _ 0 _ _ _ HPX2.out]; rfl, by rw [cell_of_row W2 _ 1 _ _ _ HPX2.out]; rfl⟩
          clear hK K
          try simp only [Act.put, List.setIfInBounds_toArray, List.set_cons_zero, List.set_cons_succ]
          refine wpAnyH_ready (rs := [4]) (by kernel_rfl) (by simp) ?_
          refine AllReadyH.cons (o := { dst := some 28, op := Op.call { callee := Callee.builtin Builtin.append, args := #[Operand.tmp 25, Operand.tmp 27], argTypes := #[29, 29] }, type := 29, pos := "l5_mending.go:23", after := #[{ on := 1, ground := Ground.data }, { on := 3, ground := Ground.data }], guard := none }) rfl (fun K hK => ?_) AllReadyH.nil
          refine step_back rfl (.tmp 25) (.tmp 27) rfl rfl rfl HO2.out HLX2.out (by omega) (by have := HZ2.out; have := HZ1.out; omega) ?_
          intro A4 c4 w3 h1 h2 h3 h4
          have HBX3 : Hid (w3.heap[w.heap.size]? = some (.cells #[.slice A n c, .int .i64 b1, .int .i64 most] 79 (0, 0))) := Lib.hid ((h2.out.block _ (Array.getElem?_eq_some_iff.1 HBX2.out).1 (fun e => by have := (HRB.out _ e.symm).2; omega)).trans HBX2.out)
          have HPX3 : Hid (w3.heap[wr.heap.size]? = some (.cells #[.int .i64 x, .int .i64 y] 53 (0, 0))) := Lib.hid ((h2.out.block _ (Array.getElem?_eq_some_iff.1 HPX2.out).1 (fun e => by have := (HRB.out _ e.symm).2; omega)).trans HPX2.out)
          have HGr : Hid (wr.grownBy w3 (Value.ownBlock (.slice A1 m c1))) := Lib.hid (HAL.out.trans h2.out)
          have HRd3 : Hid (Rd w3 lo 2 A n (cP d)) := Lib.hid (keepR HRd.out HGr.out (fun g e => (HRB.out g e).1) hlo (by omega))
          have HR33 : Hid (Rd w3 lo 2 A3 (n2 - (j + 1)) (cP (rest.drop (j + 1)))) := Lib.hid (keepR HR3.out HGr.out (fun g e => (HRB.out g e).1) hlo (by omega))
          have HZ3 : Hid (wr.heap.size ≤ w3.heap.size) := Lib.hid HGr.out.size
          refine hK.out _ _ ?_ (fun hHeld => ?_)
          · obtain ⟨e0, e1, e2⟩ := box3 w3 A n c b1 most _ HBX3.out
            exact ⟨e0, e1, e2, by rw [cell_of_row w3 _ 0 _ _ _ HPX3.out]; rfl, by rw [cell_of_row w3 _ 1 _ _ _ HPX3.out]; rfl⟩
          clear hK K
          try simp only [Act.put, List.setIfInBounds_toArray, List.set_cons_zero, List.set_cons_succ]
          refine wpAnyH_ready (rs := [9]) (by kernel_rfl) (by simp) ?_
          refine AllReadyH.cons (o := { dst := some 33, op := Op.call { callee := Callee.value (Operand.func 108), args := #[Operand.tmp 24, Operand.tmp 28, Operand.tmp 32], argTypes := #[79, 29, 29] }, type := 0, pos := "l5_mending.go:23", after := #[{ on := 0, ground := Ground.data }, { on := 4, ground := Ground.data }, { on := 8, ground := Ground.data }, { on := 4, ground := Ground.chain }], guard := none }) rfl (fun K hK => ?_) AllReadyH.nil
          go_simp
          refine (HIH.out (n2 - (j + 1)) (by omega) (rest.drop (j + 1)) (ch ++ [(x, y)]) A4 A3 (m + 1) c4 (c2 - (j + 1)) _ HGN.out (by rw [List.length_append, HLM.out]; rfl) (by omega) hb7 (by rw [List.length_drop, HRL.out]) (by omega) (by omega) (by have := HZ3.out; omega) h1.out HRd3.out HR33.out).mono ?_
          rintro e w4 ⟨ht, hg4, ho4⟩
          rw [HSV.out] at ht
          obtain ⟨hgb, hob⟩ := h4.out w4 hg4 ho4
          have HG4 : Hid (w.grownBy w4 (Value.ownBlock (.slice A1 m c1))) := Lib.hid (HG2.out.trans hgb)
          have HO4 := Lib.hid hob
          obtain rfl : e = .returned (.tuple #[]) := ht
          have HBX4 : Hid (w4.heap[w.heap.size]? = some (.cells #[.slice A n c, .int .i64 b1, .int .i64 most] 79 (0, 0))) := Lib.hid ((hgb.block _ (Array.getElem?_eq_some_iff.1 HBX2.out).1 (fun e => by have := (HRB.out _ e.symm).2; omega)).trans HBX2.out)
          have HPX4 : Hid (w4.heap[wr.heap.size]? = some (.cells #[.int .i64 x, .int .i64 y] 53 (0, 0))) := Lib.hid ((hgb.block _ (Array.getElem?_eq_some_iff.1 HPX2.out).1 (fun e => by have := (HRB.out _ e.symm).2; omega)).trans HPX2.out)
          have HE2 : Hid (sF d b1 most rest ch = sF d b1 most (rest.drop (j + 1)) ch) := Lib.hid (by rw [HE.out, HDR.out, sF_none HNE.out HSV.out])
          refine hK.out _ _ ?_ (fun hHeld => ?_)
          · obtain ⟨e0, e1, e2⟩ := box3 w4 A n c b1 most _ HBX4.out
            exact ⟨e0, e1, e2, by rw [cell_of_row w4 _ 0 _ _ _ HPX4.out]; rfl, by rw [cell_of_row w4 _ 1 _ _ _ HPX4.out]; rfl⟩
          clear hK K
          try simp only [Act.put, List.setIfInBounds_toArray, List.set_cons_zero, List.set_cons_succ]
          refine wpAnyH_done (by kernel_rfl) ?_ _
          clear hHeld hs0 hgb hob hg4 ho4 h1 h2 h3 h4 iw it hc0 hc1 hc2' hd0 hd1
          go_wp2
          go_roundw
          case rel => exact ⟨j + 1, by omega, by go_num, HE2, HG4, HO4, HBX4⟩
          case measure => simp [intOf] <;> omega

        | some p =>
          have HSV : Hid (sF d b1 most (rest.drop (j + 1)) (ch ++ [(x, y)]) = some p) := Lib.hid hs
          clear hs
          refine wp_region_held_drew (S := (fun w' => w'.cell? ⟨w.heap.size, 0, none⟩ = some (.slice A n c) ∧ w'.cell? ⟨w.heap.size, 1, none⟩ = some (.int .i64 b1) ∧ w'.cell? ⟨w.heap.size, 2, none⟩ = some (.int .i64 most) ∧ w'.cell? ⟨wr.heap.size, 0, none⟩ = some (.int .i64 x) ∧ w'.cell? ⟨wr.heap.size, 1, none⟩ = some (.int .i64 y))) (by kernel_rfl) hs0 (fun hHeld => ?_)
          refine wpAnyH_take (i := 0) (oi := { dst := some 24, op := Op.load 79 (Operand.tmp 3), type := 79, pos := "l5_mending.go:23", after := #[], guard := none }) (v := ?_) rfl (by kernel_rfl) (by kernel_rfl) (by kernel_rfl) (fun _ _ _ h => h) (Or.inl ⟨by rfl, ?_⟩) hHeld ?_
          rotate_left
          · intro w hSw; (try dsimp only at hSw); go_simp; (try with_reducible rfl)
          try simp only [Act.put, List.setIfInBounds_toArray, List.set_cons_zero, List.set_cons_succ]
          refine wpAnyH_take (i := 1) (oi := { dst := some 25, op := Op.move (Operand.tmp 1), type := 29, pos := "l5_mending.go:23", after := #[], guard := none }) (v := ?_) rfl (by kernel_rfl) (by kernel_rfl) (by kernel_rfl) (fun _ _ _ h => h) (Or.inl ⟨by rfl, ?_⟩) hHeld ?_
          rotate_left
          · intro w hSw; (try dsimp only at hSw); go_simp; (try with_reducible rfl)
          try simp only [Act.put, List.setIfInBounds_toArray, List.set_cons_zero, List.set_cons_succ]
          refine wpAnyH_take (i := 2) (oi := { dst := some 26, op := Op.load 53 (Operand.tmp 7), type := 53, pos := "l5_mending.go:23", after := #[], guard := none }) (v := ?_) rfl (by kernel_rfl) (by kernel_rfl) (by kernel_rfl) (fun _ _ _ h => h) (Or.inl ⟨by rfl, ?_⟩) hHeld ?_
          rotate_left
          · intro w hSw; (try dsimp only at hSw); go_simp; (try with_reducible rfl)
          try simp only [Act.put, List.setIfInBounds_toArray, List.set_cons_zero, List.set_cons_succ]
          refine wpAnyH_take (i := 5) (oi := { dst := some 29, op := Op.move (Operand.tmp 2), type := 29, pos := "l5_mending.go:23", after := #[], guard := none }) (v := ?_) rfl (by kernel_rfl) (by kernel_rfl) (by kernel_rfl) (fun _ _ _ h => h) (Or.inl ⟨by rfl, ?_⟩) hHeld ?_
          rotate_left
          · intro w hSw; (try dsimp only at hSw); go_simp; (try with_reducible rfl)
          try simp only [Act.put, List.setIfInBounds_toArray, List.set_cons_zero, List.set_cons_succ]
          refine wpAnyH_take (i := 6) (oi := { dst := some 30, op := Op.move (Operand.tmp 6), type := 3, pos := "l5_mending.go:23", after := #[], guard := none }) (v := ?_) rfl (by kernel_rfl) (by kernel_rfl) (by kernel_rfl) (fun _ _ _ h => h) (Or.inl ⟨by rfl, ?_⟩) hHeld ?_
          rotate_left
          · intro w hSw; (try dsimp only at hSw); go_simp; (try with_reducible rfl)
          try simp only [Act.put, List.setIfInBounds_toArray, List.set_cons_zero, List.set_cons_succ]
          refine wpAnyH_take (i := 7) (oi := { dst := some 31, op := Op.binOp BinOp.add 3 (Operand.tmp 30) (Operand.const (Value.int IntKind.i64 1)) 3, type := 3, pos := "l5_mending.go:23", after := #[{ on := 6, ground := Ground.data }], guard := none }) (v := ?_) rfl (by kernel_rfl) (by kernel_rfl) (by kernel_rfl) (fun _ _ _ h => h) (Or.inl ⟨by rfl, ?_⟩) hHeld ?_
          rotate_left
          · intro w hSw; (try dsimp only at hSw); go_simp; (try with_reducible rfl)
          try simp only [Act.put, List.setIfInBounds_toArray, List.set_cons_zero, List.set_cons_succ]
          refine wpAnyH_take (i := 8) (oi := { dst := some 32, op := Op.slice 29 (Operand.tmp 29) (some (Operand.tmp 31)) none none, type := 29, pos := "l5_mending.go:23", after := #[{ on := 5, ground := Ground.data }, { on := 7, ground := Ground.data }], guard := none }) (v := .slice A3 (n2 - (j + 1)) (c2 - (j + 1))) rfl (by kernel_rfl) (by kernel_rfl) (by kernel_rfl) (fun _ _ _ h => h) (Or.inl ⟨by rfl, ?_⟩) hHeld ?_
          · intro w hSw; clear hSw; go_simp; simp only [HA3.out]
          try simp only [Act.put, List.setIfInBounds_toArray, List.set_cons_zero, List.set_cons_succ]
          refine wpAnyH_ready (rs := [3]) (by kernel_rfl) (by simp) ?_
          refine AllReadyH.cons (o := { dst := some 27, op := Op.buildSlice 29 1 #[(0, Operand.tmp 26)], type := 29, pos := "l5_mending.go:23", after := #[{ on := 2, ground := Ground.data }], guard := none }) rfl (fun K hK => ?_) AllReadyH.nil
          go_simp
          obtain ⟨W2, hW2⟩ : ∃ W2, Hid ((W1.alloc (.cells #[.int .i64 x, .int .i64 y] 53)).drew = W2) := ⟨_, Lib.hid rfl⟩
          rw [hW2.out]
          have HAL : Hid (wr.grownBy W2 (Value.ownBlock (.slice A1 m c1))) := Lib.hid (by
            have h9 : wr.grownBy (W1.alloc (.cells #[.int .i64 x, .int .i64 y] 53)) (Value.ownBlock (.slice A1 m c1)) := by
              rw [← hW1.out]; exact (World.grownBy_alloc _ _ _).trans (World.grownBy_alloc _ _ _)
            rw [← hW2.out]; exact ⟨h9.os, h9.tape, h9.output, h9.size, h9.block⟩)
          have HG2 : Hid (w.grownBy W2 (Value.ownBlock (.slice A1 m c1))) := Lib.hid (by
            have h9 := HG1.out.trans (World.grownBy_alloc W1 (.cells #[.int .i64 x, .int .i64 y] 53) _)
            rw [← hW2.out]; exact ⟨h9.os, h9.tape, h9.output, h9.size, h9.block⟩)
          have HO2 : Hid (W2.ownsRow base 53 2 (.slice A1 m c1) m (cP ch)) := Lib.hid (by rw [← hW2.out]; exact HO1.out.alloc _)
          have HZ2 : Hid (W2.heap.size = W1.heap.size + 1) := Lib.hid (by rw [← hW2.out]; simp)
          have HBX2 : Hid (W2.heap[w.heap.size]? = some (.cells #[.slice A n c, .int .i64 b1, .int .i64 most] 79 (0, 0))) := Lib.hid (by rw [← hW2.out]; exact (Below.heap_alloc W1 _ _ (by have := HZ1.out; omega)).trans HBX1.out)
          have HPX2 : Hid (W2.heap[wr.heap.size]? = some (.cells #[.int .i64 x, .int .i64 y] 53 (0, 0))) := Lib.hid (by rw [← hW2.out]; exact (Below.heap_alloc W1 _ _ (by have := HZ1.out; omega)).trans HPX1.out)
          have HLX2 : Hid (W2.heap[W1.heap.size]? = some (.cells #[.int .i64 x, .int .i64 y] 53 (0, 0))) := Lib.hid (by rw [← hW2.out]; exact heap_alloc_new W1 _)
          refine hK.out _ _ ?_ (fun hHeld => ?_)
          · obtain ⟨e0, e1, e2⟩ := box3 W2 A n c b1 most _ HBX2.out
            exact ⟨e0, e1, e2, by rw [cell_of_row W2 _ 0 _ _ _ HPX2.out]; rfl, by rw [cell_of_row W2 _ 1 _ _ _ HPX2.out]; rfl⟩
          clear hK K
          try simp only [Act.put, List.setIfInBounds_toArray, List.set_cons_zero, List.set_cons_succ]
          refine wpAnyH_ready (rs := [4]) (by kernel_rfl) (by simp) ?_
          refine AllReadyH.cons (o := { dst := some 28, op := Op.call { callee := Callee.builtin Builtin.append, args := #[Operand.tmp 25, Operand.tmp 27], argTypes := #[29, 29] }, type := 29, pos := "l5_mending.go:23", after := #[{ on := 1, ground := Ground.data }, { on := 3, ground := Ground.data }], guard := none }) rfl (fun K hK => ?_) AllReadyH.nil
          refine step_back rfl (.tmp 25) (.tmp 27) rfl rfl rfl HO2.out HLX2.out (by omega) (by have := HZ2.out; have := HZ1.out; omega) ?_
          intro A4 c4 w3 h1 h2 h3 h4
          have HBX3 : Hid (w3.heap[w.heap.size]? = some (.cells #[.slice A n c, .int .i64 b1, .int .i64 most] 79 (0, 0))) := Lib.hid ((h2.out.block _ (Array.getElem?_eq_some_iff.1 HBX2.out).1 (fun e => by have := (HRB.out _ e.symm).2; omega)).trans HBX2.out)
          have HPX3 : Hid (w3.heap[wr.heap.size]? = some (.cells #[.int .i64 x, .int .i64 y] 53 (0, 0))) := Lib.hid ((h2.out.block _ (Array.getElem?_eq_some_iff.1 HPX2.out).1 (fun e => by have := (HRB.out _ e.symm).2; omega)).trans HPX2.out)
          have HGr : Hid (wr.grownBy w3 (Value.ownBlock (.slice A1 m c1))) := Lib.hid (HAL.out.trans h2.out)
          have HRd3 : Hid (Rd w3 lo 2 A n (cP d)) := Lib.hid (keepR HRd.out HGr.out (fun g e => (HRB.out g e).1) hlo (by omega))
          have HR33 : Hid (Rd w3 lo 2 A3 (n2 - (j + 1)) (cP (rest.drop (j + 1)))) := Lib.hid (keepR HR3.out HGr.out (fun g e => (HRB.out g e).1) hlo (by omega))
          have HZ3 : Hid (wr.heap.size ≤ w3.heap.size) := Lib.hid HGr.out.size
          refine hK.out _ _ ?_ (fun hHeld => ?_)
          · obtain ⟨e0, e1, e2⟩ := box3 w3 A n c b1 most _ HBX3.out
            exact ⟨e0, e1, e2, by rw [cell_of_row w3 _ 0 _ _ _ HPX3.out]; rfl, by rw [cell_of_row w3 _ 1 _ _ _ HPX3.out]; rfl⟩
          clear hK K
          try simp only [Act.put, List.setIfInBounds_toArray, List.set_cons_zero, List.set_cons_succ]
          refine wpAnyH_ready (rs := [9]) (by kernel_rfl) (by simp) ?_
          refine AllReadyH.cons (o := { dst := some 33, op := Op.call { callee := Callee.value (Operand.func 108), args := #[Operand.tmp 24, Operand.tmp 28, Operand.tmp 32], argTypes := #[79, 29, 29] }, type := 0, pos := "l5_mending.go:23", after := #[{ on := 0, ground := Ground.data }, { on := 4, ground := Ground.data }, { on := 8, ground := Ground.data }, { on := 4, ground := Ground.chain }], guard := none }) rfl (fun K hK => ?_) AllReadyH.nil
          go_simp
          refine (HIH.out (n2 - (j + 1)) (by omega) (rest.drop (j + 1)) (ch ++ [(x, y)]) A4 A3 (m + 1) c4 (c2 - (j + 1)) _ HGN.out (by rw [List.length_append, HLM.out]; rfl) (by omega) hb7 (by rw [List.length_drop, HRL.out]) (by omega) (by omega) (by have := HZ3.out; omega) h1.out HRd3.out HR33.out).mono ?_
          rintro e w4 ⟨ht, hg4, ho4⟩
          rw [HSV.out] at ht
          obtain ⟨hgb, hob⟩ := h4.out w4 hg4 ho4
          have HG4 : Hid (w.grownBy w4 (Value.ownBlock (.slice A1 m c1))) := Lib.hid (HG2.out.trans hgb)
          have HO4 := Lib.hid hob
          obtain ⟨v4, rfl, hov⟩ := ht
          have HF : Hid (sF d b1 most rest ch = some p) := Lib.hid (by rw [HE.out, HDR.out, sF_some HNE.out HSV.out])
          have HOV := Lib.hid (hov.widen (show w.heap.size ≤ w3.heap.size by have := HZ3.out; omega) (Nat.le_refl _))
          clear hs0 hgb hob hg4 ho4 h1 h2 h3 h4 iw it hc0 hc1 hc2' hd0 hd1 hov hK
          go_wp2
          exact ⟨rfl, by rw [HF.out]; exact ⟨_, rfl, HOV.out⟩, HG4.out, HO4.out⟩

      · obtain rfl : n2 = j := by omega
        have HF : Hid (sF d b1 most rest ch = none) := Lib.hid (by
          rw [HE.out, List.drop_eq_nil_of_le (by rw [HRL.out]; exact Nat.le_refl _), sF_nil HNE.out])
        go_wp2
        go_end0
        exact ⟨by rw [HF.out]; rfl, HG.out, HO.out⟩
end Go.Proofs.Ytjpjmlcmaombnaa

/- Chapter 5: the deferred closure that recovers. -/
namespace Go.Proofs.Ytjpjmlcmaombnaa
open Go.RowKit
set_option maxRecDepth 100000

theorem ta_yes (v : Value) (W : World) : (Instr.typeAssert (.iface 76 v) 20 76 true).run Try.prog W = .ok (.tuple #[v, .bool true]) W := by kernel_rfl
theorem ta_nil (W : World) : (Instr.typeAssert .nilIface 20 76 true).run Try.prog W = .ok (.tuple #[.agg #[.int .i64 0, .slice none 0 0], .bool false]) W := by kernel_rfl
set_option maxHeartbeats 1000000 in
theorem catch_yes (gp gq : Nat) (a a0 : Int) (As : Option Addr) (ns ks : Nat) (s0 : Value) (b0 : Bool) (older : List PanicEntry) (w : World) (hp : w.heap[gp]? = some (.cells #[.int .i64 a0, s0] 76 (0, 0))) (hq : w.heap[gq]? = some (.cells #[.bool b0] 4 (0, 0))) (hne : gp ≠ gq) :
    CallsD Try.prog 107 #[.pointer (some ⟨gp, 0, none⟩), .pointer (some ⟨gq, 0, none⟩)] (.panicking ({ v := .iface 76 (.agg #[.int .i64 a, .slice As ns ks]), recovered := false } :: older)) w fun e u' w' =>
      e = .returned (.tuple #[]) ∧ u' = .panicking ({ v := .iface 76 (.agg #[.int .i64 a, .slice As ns ks]), recovered := true } :: older) ∧ w' = ((w.setCell ⟨gp, 0, none⟩ (.int .i64 a)).setCell ⟨gp, 1, none⟩ (.slice As ns ks)).setCell ⟨gq, 0, none⟩ (.bool true) := by
  refine callsD_of_wpS Try.func107 rfl fun c₀ cs hu => ?_
  have hc0 : w.cell? ⟨gp, 0, none⟩ = some (.int .i64 a0) := by rw [cell_of_row w _ 0 _ _ _ hp]; rfl
  have hd0 : w.cell? ⟨gq, 0, none⟩ = some (.bool b0) := by rw [cell_of_row w _ 0 _ _ _ hq]; rfl
  have hf0 : w.frozen? ⟨gp, 0, none⟩ = false := by simp [World.frozen?, hp]
  have hp1 := heap_setCell_same w gp 0 _ _ (.int .i64 a) hp
  obtain ⟨w1, hw1⟩ : ∃ w1, w1 = w.setCell ⟨gp, 0, none⟩ (.int .i64 a) := ⟨_, rfl⟩
  rw [← hw1] at hp1
  have hc1 : w1.cell? ⟨gp, 1, none⟩ = some s0 := by rw [cell_of_row w1 _ 1 _ _ _ hp1]; simp
  have hf1 : w1.frozen? ⟨gp, 1, none⟩ = false := by simp [World.frozen?, hp1]
  have hq1 : w1.heap[gq]? = some (.cells #[.bool b0] 4 (0, 0)) := by rw [hw1, Below.heap_setCell _ _ _ _ (by simpa using hne.symm)]; exact hq
  obtain ⟨w2, hw2⟩ : ∃ w2, w2 = w1.setCell ⟨gp, 1, none⟩ (.slice As ns ks) := ⟨_, rfl⟩
  have hq2 : w2.heap[gq]? = some (.cells #[.bool b0] 4 (0, 0)) := by rw [hw2, Below.heap_setCell _ _ _ _ (by simpa using hne.symm)]; exact hq1
  have hd2 : w2.cell? ⟨gq, 0, none⟩ = some (.bool b0) := by rw [cell_of_row w2 _ 0 _ _ _ hq2]; rfl
  have hf2 : w2.frozen? ⟨gq, 0, none⟩ = false := by simp [World.frozen?, hq2]
  apply wpS_region
  simp [wpOpsS, go_sem, recoverD, hu, Try.ntmps107, ta_yes, hc0, hf0, ← hw1, hc1, hf1, ← hw2, hd2, hf2, bodyPostS, results, Try.results107]
set_option maxHeartbeats 1000000 in
theorem catch_no (gp gq : Nat) (a0 : Int) (s0 : Value) (b0 : Bool) (w : World) (hp : w.heap[gp]? = some (.cells #[.int .i64 a0, s0] 76 (0, 0))) (hq : w.heap[gq]? = some (.cells #[.bool b0] 4 (0, 0))) (hne : gp ≠ gq) :
    CallsD Try.prog 107 #[.pointer (some ⟨gp, 0, none⟩), .pointer (some ⟨gq, 0, none⟩)] .returning w fun e u' w' =>
      e = .returned (.tuple #[]) ∧ u' = .returning ∧ w' = ((w.setCell ⟨gp, 0, none⟩ (.int .i64 0)).setCell ⟨gp, 1, none⟩ (.slice none 0 0)).setCell ⟨gq, 0, none⟩ (.bool false) := by
  refine callsD_of_wpS Try.func107 rfl fun c₀ cs hu => ?_
  have hc0 : w.cell? ⟨gp, 0, none⟩ = some (.int .i64 a0) := by rw [cell_of_row w _ 0 _ _ _ hp]; rfl
  have hf0 : w.frozen? ⟨gp, 0, none⟩ = false := by simp [World.frozen?, hp]
  have hp1 := heap_setCell_same w gp 0 _ _ (.int .i64 0) hp
  obtain ⟨w1, hw1⟩ : ∃ w1, w1 = w.setCell ⟨gp, 0, none⟩ (.int .i64 0) := ⟨_, rfl⟩
  rw [← hw1] at hp1
  have hc1 : w1.cell? ⟨gp, 1, none⟩ = some s0 := by rw [cell_of_row w1 _ 1 _ _ _ hp1]; simp
  have hf1 : w1.frozen? ⟨gp, 1, none⟩ = false := by simp [World.frozen?, hp1]
  have hq1 : w1.heap[gq]? = some (.cells #[.bool b0] 4 (0, 0)) := by rw [hw1, Below.heap_setCell _ _ _ _ (by simpa using hne.symm)]; exact hq
  obtain ⟨w2, hw2⟩ : ∃ w2, w2 = w1.setCell ⟨gp, 1, none⟩ (.slice none 0 0) := ⟨_, rfl⟩
  have hq2 : w2.heap[gq]? = some (.cells #[.bool b0] 4 (0, 0)) := by rw [hw2, Below.heap_setCell _ _ _ _ (by simpa using hne.symm)]; exact hq1
  have hd2 : w2.cell? ⟨gq, 0, none⟩ = some (.bool b0) := by rw [cell_of_row w2 _ 0 _ _ _ hq2]; rfl
  have hf2 : w2.frozen? ⟨gq, 0, none⟩ = false := by simp [World.frozen?, hq2]
  apply wpS_region
  simp [wpOpsS, go_sem, recoverD, hu, Try.ntmps107, ta_nil, hc0, hf0, ← hw1, hc1, hf1, ← hw2, hd2, hf2, bodyPostS, results, Try.results107]
  cases c₀
  simp_all

theorem three_set {w : World} {gp gq : Nat} {x0 y0 z0 : Value} (x y z : Value) {t u : TypeId} (hp : w.heap[gp]? = some (.cells #[x0, y0] t (0, 0))) (hq : w.heap[gq]? = some (.cells #[z0] u (0, 0))) (hlt : gp < gq) :
    (((w.setCell ⟨gp, 0, none⟩ x).setCell ⟨gp, 1, none⟩ y).setCell ⟨gq, 0, none⟩ z).heap[gp]? = some (.cells #[x, y] t (0, 0)) ∧ (((w.setCell ⟨gp, 0, none⟩ x).setCell ⟨gp, 1, none⟩ y).setCell ⟨gq, 0, none⟩ z).heap[gq]? = some (.cells #[z] u (0, 0)) ∧
    Below gp w (((w.setCell ⟨gp, 0, none⟩ x).setCell ⟨gp, 1, none⟩ y).setCell ⟨gq, 0, none⟩ z) ∧ (((w.setCell ⟨gp, 0, none⟩ x).setCell ⟨gp, 1, none⟩ y).setCell ⟨gq, 0, none⟩ z).heap.size = w.heap.size := by
  have h1 := heap_setCell_same w gp 0 _ _ x hp
  have h2 := heap_setCell_same (w.setCell ⟨gp, 0, none⟩ x) gp 1 _ _ y h1
  have g1 : (w.setCell ⟨gp, 0, none⟩ x).heap[gq]? = some (.cells #[z0] u (0, 0)) := by rw [Below.heap_setCell _ _ _ _ (by simp; omega)]; exact hq
  have g2 : ((w.setCell ⟨gp, 0, none⟩ x).setCell ⟨gp, 1, none⟩ y).heap[gq]? = some (.cells #[z0] u (0, 0)) := by rw [Below.heap_setCell _ _ _ _ (by simp; omega)]; exact g1
  have h3 := heap_setCell_same ((w.setCell ⟨gp, 0, none⟩ x).setCell ⟨gp, 1, none⟩ y) gq 0 _ _ z g2
  refine ⟨?_, by simpa using h3, (((Below.refl gp w).setCell (p := ⟨gp, 0, none⟩) (Nat.le_refl _) x).setCell (p := ⟨gp, 1, none⟩) (Nat.le_refl _) y).setCell (p := ⟨gq, 0, none⟩) (by simp; omega) z, by simp [World.setCell]⟩
  rw [Below.heap_setCell _ _ _ _ (by simp; omega)]
  simpa using h2
theorem res_first {fn : Func} {t u : Tmp} {tmps : Array Value} {w : World} {g h : Nat} {a b : Value} {c : Bool} (hr : fn.results = #[.cell t 76, .cell u 4]) (ht : tmps.getD t undef = .pointer (some ⟨g, 0, none⟩)) (hu : tmps.getD u undef = .pointer (some ⟨h, 0, none⟩))
    (hb : w.heap[g]? = some (.cells #[a, b] 76 (0, 0))) (hc : w.heap[h]? = some (.cells #[.bool c] 4 (0, 0))) :
    (results fn tmps).run Try.prog w = .ok (.tuple #[.agg #[a, b], .bool c]) w := by
  have he0 : w.cell? ⟨g, 0, none⟩ = some a := by rw [cell_of_row w _ 0 _ _ _ hb]; rfl
  have he1 : w.cell? ⟨g, 1, none⟩ = some b := by rw [cell_of_row w _ 1 _ _ _ hb]; rfl
  have hd : w.cell? ⟨h, 0, none⟩ = some (.bool c) := by rw [cell_of_row w _ 0 _ _ _ hc]; rfl
  have ht2 : tmps[t]?.getD undef = .pointer (some ⟨g, 0, none⟩) := by rw [← ht]; simp
  have hu2 : tmps[u]?.getD undef = .pointer (some ⟨h, 0, none⟩) := by rw [← hu]; simp
  simp [results, hr, ht2, hu2, asAddr, go_sem, hd, he0, he1]
/-- what first comes to -/
def FirstP (o : Option (List Int)) (d : List Pt) (lo : Nat) (e : Ending) (w' : World) : Prop := match o with
  | some p => ∃ v, e = .returned (.tuple #[.agg #[.int .i64 (atI p 0), v], .bool true]) ∧ OwIntS w' lo w'.heap.size v (wrL p d)
  | none => e = .returned (.tuple #[.agg #[.int .i64 0, .slice none 0 0], .bool false])
set_option maxHeartbeats 2000000 in
theorem i_first (A : Option Addr) (n c b1 : Nat) (z most : Int) (d : List Pt) (w : World) (hz : z = (b1 : Int)) (hdn : d.length = n) (hn : n ≤ 7) (hc : n ≤ c) (hd : GL d) (hb1 : b1 ≤ 7) (h : Rd w w.heap.size 2 A n (cP d)) :
    Calls Try.prog 67 #[mdV A n c z most] w fun e w' => FirstP (sF d b1 most d []) d w.heap.size e w' ∧ Below w.heap.size w w' := by
  subst hz
  have hmf : ∀ (fn : Fn) (first cap : Array Value) (w : World), (Instr.makeFunc fn first cap).run Try.prog w = .ok (.func fn first cap) w := fun _ _ _ _ => rfl
  obtain ⟨W, hW⟩ : ∃ W, Hid ((((w.alloc (.cells #[.slice A n c, .int .i64 b1, .int .i64 most] 79)).alloc (.cells #[.int .i64 0, .slice none 0 0] 76)).alloc (.cells #[.bool false] 4)) = W) := ⟨_, Lib.hid rfl⟩
  have HB0 : Hid (Below w.heap.size w W) := Lib.hid (by rw [← hW.out]; exact (((Below.refl _ _).alloc (Nat.le_refl _) _).alloc (by simp) _).alloc (by simp; omega) _)
  have HP0 : Hid (W.heap[w.heap.size + 1]? = some (.cells #[.int .i64 0, .slice none 0 0] 76 (0, 0))) := Lib.hid (by
    rw [← hW.out, Below.heap_alloc _ _ _ (by simp)]
    have := heap_alloc_new (w.alloc (.cells #[.slice A n c, .int .i64 b1, .int .i64 most] 79)) (.cells #[.int .i64 0, .slice none 0 0] 76)
    simpa using this)
  have HQ0 : Hid (W.heap[w.heap.size + 1 + 1]? = some (.cells #[.bool false] 4 (0, 0))) := Lib.hid (by
    rw [← hW.out]
    have := heap_alloc_new ((w.alloc (.cells #[.slice A n c, .int .i64 b1, .int .i64 most] 79)).alloc (.cells #[.int .i64 0, .slice none 0 0] 76)) (.cells #[.bool false] 4)
    simpa using this)
  have HZ0 : Hid (W.heap.size = w.heap.size + 1 + 1 + 1) := Lib.hid (by rw [← hW.out]; simp)
  have HR0 : Hid (Rd W w.heap.size 2 A n (cP d)) := Lib.hid (h.below HB0.out)
  have HD := Lib.hid hd
  have HDN := Lib.hid hdn
  clear h hd hdn
  go_enter_defers Try.func67, Try.ntmps67
  go_wp2_with fail
  rw [hW.out]
  refine (i_try A n c b1 w.heap.size w.heap.size most d HDN.out hn HD.out (Nat.le_refl _) n d [] none A 0 0 c W (by simpa using HD.out) rfl (Nat.zero_le _) hb1 HDN.out hn hc HB0.out.size (World.ownsRow_nil _ _ _ _) HR0.out HR0.out).mono ?_
  rintro e w2 ⟨ht, hg, _⟩
  have HP2 : Hid (w2.heap[w.heap.size + 1]? = some (.cells #[.int .i64 0, .slice none 0 0] 76 (0, 0))) := Lib.hid ((hg.block _ (Array.getElem?_eq_some_iff.1 HP0.out).1 (by simp [Value.ownBlock])).trans HP0.out)
  have HQ2 : Hid (w2.heap[w.heap.size + 1 + 1]? = some (.cells #[.bool false] 4 (0, 0))) := Lib.hid ((hg.block _ (Array.getElem?_eq_some_iff.1 HQ0.out).1 (by simp [Value.ownBlock])).trans HQ0.out)
  have HB2 : Hid (Below w.heap.size w w2) := Lib.hid (HB0.out.trans ⟨hg.os, hg.tape, hg.output, hg.size, fun k hk => hg.block k (by have := HZ0.out; omega) (by simp [Value.ownBlock])⟩)
  have HZ2 : Hid (w.heap.size ≤ W.heap.size ∧ w.heap.size + 1 + 1 < w2.heap.size) := Lib.hid ⟨HB0.out.size, (Array.getElem?_eq_some_iff.1 HQ2.out).1⟩
  clear hg
  cases hs : sF d b1 most d [] with
  | none =>
    rw [hs] at ht
    obtain rfl : e = .returned (.tuple #[]) := ht
    have hp := HP2.out
    have hq := HQ2.out
    have hc0 : w2.cell? ⟨w.heap.size + 1, 0, none⟩ = some (.int .i64 0) := by rw [cell_of_row w2 _ 0 _ _ _ hp]; rfl
    have hc1 : w2.cell? ⟨w.heap.size + 1, 1, none⟩ = some (.slice none 0 0) := by rw [cell_of_row w2 _ 1 _ _ _ hp]; rfl
    have hd0 : w2.cell? ⟨w.heap.size + 1 + 1, 0, none⟩ = some (.bool false) := by rw [cell_of_row w2 _ 0 _ _ _ hq]; rfl
    have hf0 : w2.frozen? ⟨w.heap.size + 1, 0, none⟩ = false := by simp [World.frozen?, hp]
    have hf1 : w2.frozen? ⟨w.heap.size + 1, 1, none⟩ = false := by simp [World.frozen?, hp]
    have hf2 : w2.frozen? ⟨w.heap.size + 1 + 1, 0, none⟩ = false := by simp [World.frozen?, hq]
    have HS := Lib.hid hs
    clear hs hp hq
    have H3 := three_set (.int .i64 0) (.slice none 0 0) (.bool false) HP2.out HQ2.out (by omega)
    obtain ⟨W3, hW3⟩ : ∃ W3, Hid (((w2.setCell ⟨w.heap.size + 1, 0, none⟩ (.int .i64 0)).setCell ⟨w.heap.size + 1, 1, none⟩ (.slice none 0 0)).setCell ⟨w.heap.size + 1 + 1, 0, none⟩ (.bool false) = W3) := ⟨_, Lib.hid rfl⟩
    rw [hW3.out] at H3
    have H3H := Lib.hid H3
    clear H3
    go_wp2
    rw [hW3.out]
    refine leaves_cons (f := 107) (args := #[.pointer (some ⟨w.heap.size + 1, 0, none⟩), .pointer (some ⟨w.heap.size + 1 + 1, 0, none⟩)]) (by simp) (by simp [go_sem]) ?_
    refine (catch_no (w.heap.size + 1) (w.heap.size + 1 + 1) 0 (.slice none 0 0) false W3 H3H.out.1 H3H.out.2.1 (by omega)).mono ?_
    rintro e u' w4 ⟨rfl, rfl, rfl⟩
    obtain ⟨k1, k2, k3, k4⟩ := three_set (.int .i64 0) (.slice none 0 0) (.bool false) H3H.out.1 H3H.out.2.1 (by omega)
    refine ⟨_, res_first rfl rfl rfl k1 k2, by rw [HS.out]; rfl, ?_⟩
    exact HB2.out.trans ((H3H.out.2.2.1.mono (by omega)).trans (k3.mono (by omega)))
  | some p =>
    rw [hs] at ht
    obtain ⟨v, rfl, hov⟩ := ht
    obtain ⟨As, ns, ks, rfl, hns, hnk, ho⟩ := hov.open
    have HOV := Lib.hid hov
    clear hov ho hns hnk
    go_wp2
    refine leaves_cons (f := 107) (args := #[.pointer (some ⟨w.heap.size + 1, 0, none⟩), .pointer (some ⟨w.heap.size + 1 + 1, 0, none⟩)]) (by simp) (by simp [go_sem]) ?_
    refine (catch_yes (w.heap.size + 1) (w.heap.size + 1 + 1) (atI p 0) 0 As ns ks (.slice none 0 0) false [] w2 HP2.out HQ2.out (by omega)).mono ?_
    rintro e u' w4 ⟨rfl, rfl, rfl⟩
    obtain ⟨k1, k2, k3, k4⟩ := three_set (.int .i64 (atI p 0)) (.slice As ns ks) (.bool true) HP2.out HQ2.out (by omega)
    have HK : OwIntS (((w2.setCell ⟨w.heap.size + 1, 0, none⟩ (.int .i64 (atI p 0))).setCell ⟨w.heap.size + 1, 1, none⟩ (.slice As ns ks)).setCell ⟨w.heap.size + 1 + 1, 0, none⟩ (.bool true)) w.heap.size (((w2.setCell ⟨w.heap.size + 1, 0, none⟩ (.int .i64 (atI p 0))).setCell ⟨w.heap.size + 1, 1, none⟩ (.slice As ns ks)).setCell ⟨w.heap.size + 1 + 1, 0, none⟩ (.bool true)).heap.size (.slice As ns ks) (wrL p d) := by
      rw [k4]
      refine (HOV.out.kept (lo' := w.heap.size + 1) (mid := w.heap.size + 1 + 1 + 1) ?_ (Nat.le_refl _) (.inl (by have := HZ0.out; omega))).widen HZ2.out.1 (Nat.le_refl _)
      exact (((Kept.refl _ _ w2).setCell (p := ⟨w.heap.size + 1, 0, none⟩) (Nat.le_refl _) (by simp <;> omega) _).setCell (p := ⟨w.heap.size + 1, 1, none⟩) (Nat.le_refl _) (by simp <;> omega) _).setCell (p := ⟨w.heap.size + 1 + 1, 0, none⟩) (by simp) (by simp) _
    refine ⟨_, res_first rfl rfl rfl k1 k2, ?_, HB2.out.trans (k3.mono (by omega))⟩
    rw [hs]
    exact ⟨_, rfl, HK⟩
end Go.Proofs.Ytjpjmlcmaombnaa

/- Chapter 5: SharesMend in the program. -/
namespace Go.Proofs.Ytjpjmlcmaombnaa
open Go.RowKit
set_option maxRecDepth 100000

set_option maxHeartbeats 2000000 in
theorem X_i_SharesMend (v : Value) (d : List Pt) (b : Int) (w : World) (lo hi : Nat) (h : OwPointS w lo hi v d) (hh : hi ≤ w.heap.size) (hs : szPointS d ≤ 1048576) :
    Calls Try.prog 25 #[v, .int .i64 b] w fun e w' => ∃ g, e = .returned (.tuple #[.int .i64 (R_SharesMend_0 d b), g, .bool (R_SharesMend_2 d b)]) ∧ OwIntS w' w.heap.size w'.heap.size g (R_SharesMend_1 d b) ∧ Below w.heap.size w w' := by
  have hrd := h.rd.more hh
  obtain ⟨_, A0, n0, c0, hv0, ow⟩ := h
  have hnc0 : n0 ≤ c0 := ow.2.1
  clear ow
  obtain ⟨A, n, c, hv, _, r⟩ := hrd
  obtain ⟨rfl, rfl, rfl⟩ : A0 = A ∧ n0 = n ∧ c0 = c := by rw [hv0] at hv; cases hv; exact ⟨rfl, rfl, rfl⟩
  subst hv0
  clear hv
  have hn : n0 ≤ 1048576 := by have := r.plen; unfold szPointS at hs; omega
  have HDN := Lib.hid r.plen
  have H := Lib.hid r
  clear r hs
  by_cases hm : 0 ≤ mostI n0 b
  · obtain ⟨n1, n7, b0, b1⟩ := most_ge hm
    have hm2 : ¬ (mostI n0 b < 0) := by omega
    cases hp : shB d 7
    · have HF := mend_none (mend_no (d := d) (b := b) (by
        unfold shB at hp; unfold mendB
        cases h1 : ptsB d
        · rfl
        · rw [h1] at hp; simp only [Bool.true_and] at hp ⊢; rw [hp]; simp))
      go_enter Try.func25, Try.ntmps25
      go_wp2_with fail
      refine (i_MendMost _ _ _).mono ?_
      rintro e w1 ⟨rfl, rfl⟩
      go_wp2_with fail
      refine (i_sharesOk _ _ _ _ _ _ H.out hn).mono ?_
      rintro e w1 ⟨rfl, hb⟩
      have HB := Lib.hid hb
      clear hb
      rw [hp]
      go_wp2
      go_ret3
      refine ⟨_, ret_ivb HF.out.1.symm HF.out.2.2.symm, ?_, HB.out⟩
      rw [HF.out.2.1]; exact OwIntS.nil_ _ _ _
    · have hpp : ptsB d = true ∧ xsK d 7 d.length = true := by unfold shB at hp; exact (Bool.and_eq_true _ _).mp hp
      obtain ⟨B, rfl⟩ := Int.eq_ofNat_of_zero_le b0
      have HGL : Hid (GL d) := Lib.hid (GL.of (by have := (shB_good HDN.out hpp.1).1; rw [HDN.out]; exact this))
      have HMO : Hid (mendO d B = sF d (B + 1) (mostI n0 B) d []) := Lib.hid (by
        unfold mendO; rw [if_pos (by unfold mendB; rw [hpp.1, hpp.2, HDN.out, decide_eq_true hm]; rfl), HDN.out]; simp)
      clear hpp
      go_enter Try.func25, Try.ntmps25
      go_wp2_with fail
      refine (i_MendMost _ _ _).mono ?_
      rintro e w1 ⟨rfl, rfl⟩
      go_wp2_with fail
      refine (i_sharesOk _ _ _ _ _ _ H.out hn).mono ?_
      rintro e w1 ⟨rfl, hb⟩
      have HB := Lib.hid hb
      have hz1 := HB.out.size
      have H1 : Hid (Rd w1 w1.heap.size 2 A0 n0 (cP d)) := Lib.hid ((H.out.below HB.out).more hz1)
      clear hb
      rw [hp]
      go_wp2_with fail
      refine (i_first A0 n0 c0 (B + 1) _ _ d w1 (by first | rfl | simp) HDN.out (by omega) hnc0 HGL.out (by omega) H1.out).mono ?_
      rintro e w2 ⟨hf, hb2⟩
      have z2 := hb2.size
      have HB2 : Hid (Below w.heap.size w w2) := Lib.hid (HB.out.trans (hb2.mono hz1))
      clear hb2
      cases hsf : sF d (B + 1) (mostI n0 B) d [] with
      | none =>
        rw [hsf] at hf
        obtain rfl : e = _ := hf
        have HF := mend_none (HMO.out.trans hsf)
        clear hsf HMO
        go_wp2
        obtain ⟨W, hW⟩ : ∃ W, Hid ((w2.alloc (.cells #[.int .i64 0, .slice none 0 0] 76)) = W) := ⟨_, Lib.hid rfl⟩
        have hg : W.heap[w2.heap.size]? = some (.cells #[.int .i64 0, .slice none 0 0] 76 (0, 0)) := by
          rw [← hW.out]; simpa using heap_alloc_new w2 (.cells #[.int .i64 0, .slice none 0 0] 76)
        have hc0 : W.cell? ⟨w2.heap.size, 0, none⟩ = some (.int .i64 0) := by rw [cell_of_row W _ 0 _ _ _ hg]; rfl
        have hc1 : W.cell? ⟨w2.heap.size, 1, none⟩ = some (.slice none 0 0) := by rw [cell_of_row W _ 1 _ _ _ hg]; rfl
        have HBW : Hid (Below w.heap.size w W) := Lib.hid (by rw [← hW.out]; exact HB2.out.alloc (by omega) _)
        rw [hW.out]
        clear hg
        go_quiet (fail)
        go_wp2
        go_ret3
        refine ⟨_, ret_ivb HF.out.1.symm HF.out.2.2.symm, ?_, below_drewN HBW.out _⟩
        rw [HF.out.2.1]; exact OwIntS.nil_ _ _ _
      | some p =>
        rw [hsf] at hf
        obtain ⟨v, rfl, hov⟩ := hf
        obtain ⟨As, ns, ks, rfl, hns, hnk, ho⟩ := hov.open
        have HOV := Lib.hid hov
        have HF := mend_some (HMO.out.trans hsf)
        clear hov ho hns hnk hsf HMO
        go_wp2
        obtain ⟨W, hW⟩ : ∃ W, Hid ((w2.alloc (.cells #[.int .i64 (atI p 0), .slice As ns ks] 76)) = W) := ⟨_, Lib.hid rfl⟩
        have hg : W.heap[w2.heap.size]? = some (.cells #[.int .i64 (atI p 0), .slice As ns ks] 76 (0, 0)) := by
          rw [← hW.out]; simpa using heap_alloc_new w2 (.cells #[.int .i64 (atI p 0), .slice As ns ks] 76)
        have hc0 : W.cell? ⟨w2.heap.size, 0, none⟩ = some (.int .i64 (atI p 0)) := by rw [cell_of_row W _ 0 _ _ _ hg]; rfl
        have hc1 : W.cell? ⟨w2.heap.size, 1, none⟩ = some (.slice As ns ks) := by rw [cell_of_row W _ 1 _ _ _ hg]; rfl
        have HBW : Hid (Below w.heap.size w W) := Lib.hid (by rw [← hW.out]; exact HB2.out.alloc (by omega) _)
        have HBX : Hid (Below w2.heap.size w2 W) := Lib.hid (by rw [← hW.out]; exact (Below.refl _ _).alloc (by omega) _)
        rw [hW.out]
        clear hg
        go_quiet (fail)
        go_wp2
        go_ret3
        refine ⟨_, ret_ivb HF.out.1.symm HF.out.2.2.symm, ?_, below_drewN HBW.out _⟩
        rw [HF.out.2.1]
        exact (HOV.out.below (below_drewN HBX.out _) (Nat.le_refl _)).widen hz1 (below_drewN HBX.out _).size
  · have HF := mend_none (mend_no (d := d) (b := b) (by unfold mendB; rw [HDN.out, decide_eq_false hm]; simp))
    have hm2 : mostI n0 b < 0 := by omega
    go_enter Try.func25, Try.ntmps25
    go_wp2_with fail
    refine (i_MendMost _ _ _).mono ?_
    rintro e w2 ⟨rfl, rfl⟩
    go_wp2
    go_ret3
    refine ⟨_, ret_ivb HF.out.1.symm HF.out.2.2.symm, ?_, Below.refl _ _⟩
    rw [HF.out.2.1]; exact OwIntS.nil_ _ _ _
end Go.Proofs.Ytjpjmlcmaombnaa

/- P33: the law's walk. -/
namespace Go.Proofs.Ytjpjmlcmaombnaa
open Go.RowKit
set_option maxRecDepth 100000

set_option maxHeartbeats 4000000 in
theorem P33_walk (A : Option Addr) (n c : Nat) (bs : List Int) (A2 : Option Addr) (n2 c2 : Nat) (bs2 : List Int) (w : World) (h : Rd w w.heap.size 1 A n (cU bs)) (hb : Byt bs) (hc : n ≤ c) (hm : n ≤ 9223372036854775807)
    (h2 : Rd w w.heap.size 1 A2 n2 (cU bs2)) (hb2 : Byt bs2) (_hc2 : n2 ≤ c2) (hm2 : n2 ≤ 9223372036854775807) :
    Calls Try.prog 15 #[.slice A n c, .slice A2 n2 c2] w fun e w' => e = .returned (.bool true) ∧ Below w.heap.size w w' := by
  by_cases hn : n ≤ 1048576
  · have h3 : ¬ ((1048576 : Int) < (n : Int)) := by omega
    by_cases hn2 : n2 ≤ 1048576
    · have h4 : ¬ ((1048576 : Int) < (n2 : Int)) := by omega
      have H := Lib.hid h
      have H2 := Lib.hid h2
      clear h h2
      go_enter Try.func15, Try.ntmps15
      go_wp2_with fail
      refine (d_DrawSharesOf _ _ _ _ _ H.out hb hn hc).mono ?_
      rintro e w1 ⟨s, N, v, t, rfl, ⟨hN0, hN8⟩, ho, h6, hb1⟩
      have B1 := Lib.hid hb1
      have B1' := Lib.hid hb1
      obtain ⟨_, At, nt, ct, rfl, rt⟩ := ho
      have hnt := rt.len
      obtain rfl : nt = t.length := by omega
      have R1 : Hid (Rd w1 w1.heap.size 1 At t.length (cI t)) := Lib.hid rt.rd
      have hts : szIntS t ≤ 1048576 := by unfold szIntS; omega
      clear hb1 rt hnt H
      go_wp2_with fail
      refine (X_i_SharesOf _ s N t w1 ⟨_, _, _, rfl, by omega, R1.out⟩ hts).mono ?_
      rintro e w2 ⟨g1, rfl, ho1, hb2'⟩
      have B2 := Lib.hid (B1.out.trans (hb2'.mono B1.out.size))
      have R2 := Lib.hid ((R1.out.below hb2').more hb2'.size)
      have O2 := Lib.hid ho1
      have S2 := Lib.hid hb2'.size
      obtain ⟨_, A3, n3, c3, rfl, r3⟩ := ho1
      have P2 := Lib.hid r3.rd
      have HC3 := Lib.hid r3.2.1
      clear hb2' R1 B1 r3
      go_wp2_with fail
      refine (X_s_SharesOf _ s N t w2 ⟨_, _, _, rfl, by omega, R2.out⟩ hts).mono ?_
      rintro e w3 ⟨g2, rfl, ho2, hb3⟩
      have B3 := Lib.hid (B2.out.trans (hb3.mono B2.out.size))
      have O3 := Lib.hid (O2.out.below hb3 (Nat.le_refl _))
      have S3 := Lib.hid hb3.size
      have P3 := Lib.hid ((P2.out.below hb3).more hb3.size)
      obtain ⟨_, A4, n4, c4, rfl, r4⟩ := ho2
      obtain rfl : n4 = n3 := by have e1 := r4.plen; have e2 := P2.out.plen; omega
      have Q3 := Lib.hid r4.rd
      have hn4 : n4 ≤ 1048576 := by
        have e1 := r4.plen
        unfold R_SharesOf_0 at e1
        split at e1
        · rw [uptoF_length] at e1; omega
        · simp at e1; omega
      clear hb3 R2 P2 r4 B2
      go_wp2_with fail
      refine (u_uvPoints _ _ _ _ _ _ w3 P3.out Q3.out hn4).mono ?_
      rintro e w4 ⟨rfl, m4, hw4⟩
      have B4 : Hid (Below w.heap.size w w4) := Lib.hid (by rw [hw4]; exact below_drewN B3.out _)
      have O4 : Hid (OwPointS w4 w1.heap.size w2.heap.size (.slice A3 n4 c3) (R_SharesOf_0 s N t)) := Lib.hid (by rw [hw4]; exact O3.out.below (below_drewN (Below.refl _ _) m4) (Nat.le_trans S3.out (Nat.le_refl _)))
      have S4 : Hid (w1.heap.size ≤ w2.heap.size ∧ w2.heap.size ≤ w4.heap.size) := Lib.hid ⟨S2.out, by rw [hw4]; exact S3.out⟩
      have P4 : Hid (Rd w4 w4.heap.size 2 A3 n4 (cP (R_SharesOf_0 s N t))) := Lib.hid (by rw [hw4]; exact P3.out.drewN m4)
      have Q4 : Hid (Rd w4 w4.heap.size 2 A4 n4 (cP (R_SharesOf_0 s N t))) := Lib.hid (by rw [hw4]; exact Q3.out.drewN m4)
      clear hw4 B3 O3 P3 Q3 O2 S2 S3
      cases hB : R_SharesOf_1 s N t
      · go_wp2_with fail
        refine (u_uvPoints _ _ _ _ _ _ w4 P4.out Q4.out hn4).mono ?_
        rintro e w5 ⟨rfl, m5, rfl⟩
        go_wp2
        go_ret
        exact ⟨rfl, below_drewN B4.out _⟩
      · have HB := Lib.hid (show ofB s N t = true from hB)
        obtain ⟨_, hnt2, ⟨N1, N7⟩, tN⟩ := ofB_parts HB.out
        have HX : Hid (R_SharesOf_0 s N t = uptoF (shF (s :: t)) N.toNat) := Lib.hid (by unfold R_SharesOf_0; rw [if_pos HB.out])
        have HN4 : Hid (n4 = N.toNat) := Lib.hid (by have := P4.out.plen; rw [HX.out, uptoF_length] at this; omega)
        have hn47 : n4 ≤ 7 := by have := HN4.out; omega
        have hn40 : 0 < n4 := by have := HN4.out; omega
        obtain ⟨_, Ax, nx, cx, hxe, ox⟩ := O4.out
        obtain ⟨rfl, rfl, rfl⟩ : Ax = A3 ∧ nx = n4 ∧ cx = c3 := by cases hxe; exact ⟨rfl, rfl, rfl⟩
        clear hxe
        obtain ⟨g, _, rfl, g1, g2, _, _⟩ := ox.lt hn40
        have HC0 : Hid (Chg (s :: t) (uptoF (shF (s :: t)) N.toNat) N.toNat 0) := Lib.hid Chg.start
        rw [HX.out] at ox
        have OX := Lib.hid ox
        have M2 : Hid (Rd w4 w.heap.size 1 A2 n2 (cU bs2)) := Lib.hid (H2.out.below B4.out)
        have S0 := Lib.hid B1'.out.size
        clear P4 Q4 O4 hB H2 ox
        have O0 : Hid ((w4.alloc (.cells #[] 3)).ownsRow w4.heap.size 3 1 (.slice (some ⟨w4.heap.size, 0, none⟩) 0 0) 0 (cI [])) := Lib.hid (own_empty w4 _ 1)
        have hmo := most_lt (n := N) (b := t.length) (by omega)
        have hmo2 := mostI_yes (n := N) (b := t.length) (by omega)
        go_wp2_with fail
        have BA := Lib.hid ((Below.refl w4.heap.size w4).alloc (Nat.le_refl _) (.cells #[] 3))
        have OA := Lib.hid (OX.out.below BA.out S4.out.2)
        have BB := Lib.hid (B4.out.alloc B4.out.size (.cells #[] 3))
        clear OX
        go_loopw [12, 13] (fun out i wr => ∃ (k : Nat) (dd : List Pt) (Aw : Option Addr) (m cw : Nat), k ≤ nx ∧ i = .int .i64 k ∧ out = .slice Aw m cw ∧ m ≤ k ∧ Hid ((m : Int) ≤ mostI N t.length) ∧ Hid (Chg (s :: t) dd N.toNat k) ∧ Hid (wr.ownsRow w4.heap.size 3 1 (.slice Aw m cw) m (cI (wrK (s :: t) dd k))) ∧ Hid (Ow wr w1.heap.size w2.heap.size 53 2 (some ⟨g, 0, none⟩) nx cx (cP dd)) ∧ Hid (Below w.heap.size w wr) ∧ Hid (Below w.heap.size w4 wr) ∧ Hid (w4.heap.size ≤ wr.heap.size)) (fun _ i _ => nx - (intOf i).toNat)
        case atStart => exact ⟨0, _, _, 0, 0, Nat.zero_le _, rfl, rfl, Nat.le_refl _, Lib.hid hmo, HC0, O0, OA, BB, Lib.hid (BA.out.mono B4.out.size), Lib.hid (by simp)⟩
        case round =>
          clear HC0 O0 OA BB BA
          obtain ⟨k, dd, Aw, m, cw, hk, rfl, rfl, hmk, HMM, HCH, HO, HOX, HBW, HB4, HZW⟩ := hrel
          by_cases hlt : k < nx
          · have i0 : (0 : Int) ≤ (k : Int) := by omega
            have i1 : (k : Int) < (nx : Int) := by omega
            have ik : (k : Int) < 7 := by omega
            go_wp2_with fail
            refine (i_MendMost _ _ _).mono ?_
            rintro e wr2 ⟨rfl, rfl⟩
            by_cases hmm : (m : Int) < mostI N t.length
            · by_cases hk2 : (k : Int) < (n2 : Int)
              · obtain ⟨a, z, rfl, hab, hcz, z0, z255⟩ := (M2.out.below HB4.out).byteAt hb2 (k := k) (by omega)
                go_wp2_with fail
                · have hkN : k < N.toNat := by have := HN4.out; omega
                  have hlk : k < dd.length := by have := HCH.out.len; omega
                  obtain ⟨y, hy⟩ : ∃ y, y = py dd k := ⟨_, rfl⟩
                  have hyb := HCH.out.ys k hkN
                  have hxb := HCH.out.xs k hkN
                  rw [← hy] at hyb
                  have hc0 : wr.cell? ⟨g, k * 2, none⟩ = some (.int .i64 ((k : Int) + 1)) := by
                    have := HOX.out.cellAt (cP_get1 dd k hlk)
                    rw [show (dd.getD k (0, 0)).1 = (k : Int) + 1 from hxb] at this; exact this
                  have hc1 : wr.cell? ⟨g, k * 2 + 1, none⟩ = some (.int .i64 y) := by
                    have := HOX.out.cellAt (cP_get2 dd k hlk)
                    rw [show (dd.getD k (0, 0)).2 = y from hy.symm] at this; exact this
                  have hf1 := HOX.out.free (by omega) (k * 2 + 1)
                  have HY := Lib.hid hy
                  clear hy hxb
                  have e1 : IntKind.i64.wrap (y + 1) = y + 1 := IntWalk.i64_in _ (by omega)
                  have e2 : IntKind.i64.wrap z = z := IntWalk.i64_in _ (by omega)
                  have e3 : z.tmod 112 = z % 112 := Int.tmod_eq_emod_of_nonneg z0
                  have e4 : IntKind.i64.wrap (z % 112) = z % 112 := IntWalk.i64_in _ (by omega)
                  have e5 : IntKind.i64.wrap (y + 1 + z % 112) = y + 1 + z % 112 := IntWalk.i64_in _ (by omega)
                  have e6 : (y + 1 + z % 112).tmod 113 = (y + 1 + z % 112) % 113 := Int.tmod_eq_emod_of_nonneg (by omega)
                  have e7 : IntKind.i64.wrap ((y + 1 + z % 112) % 113) = (y + 1 + z % 112) % 113 := IntWalk.i64_in _ (by omega)
                  go_still_tail 18, (by kernel_rfl)
                  change wpList _ _ _ _ _ wr.drew
                  obtain ⟨wd, hwd⟩ : ∃ wd, wd = wr.drew := ⟨_, rfl⟩
                  have hcd : wd.cell? ⟨g, k * 2 + 1, none⟩ = some (.int .i64 y) := by rw [hwd]; exact hc1
                  have hfd : wd.frozen? ⟨g, k * 2 + 1, none⟩ = false := by rw [hwd]; exact hf1
                  obtain ⟨Y, hY⟩ : ∃ Y, Y = (y + 1 + z % 112) % 113 := ⟨_, rfl⟩
                  have hYb : 0 ≤ Y ∧ Y ≤ 112 := by omega
                  have hYn : y ≠ Y := by omega
                  have HKD : Hid (Kept g (g + 1) wr (wd.setCell ⟨g, k * 2 + 1, none⟩ (.int .i64 Y))) := Lib.hid (by rw [hwd]; exact (Kept.refl _ _ _).drew.setCell (p := ⟨g, k * 2 + 1, none⟩) (Nat.le_refl _) (Nat.lt_succ_self _) _)
                  have HO5 := Lib.hid (own_keptG HO.out HKD.out (by have := S4.out; omega))
                  have HOXd : Hid (Ow wd w1.heap.size w2.heap.size 53 2 (some ⟨g, 0, none⟩) nx cx (cP dd)) := Lib.hid (by rw [hwd]; exact HOX.out.below (Below.refl wr.heap.size wr).drew (by have := S4.out; have := HZW.out; omega))
                  have HOX5 : Hid (Ow (wd.setCell ⟨g, k * 2 + 1, none⟩ (.int .i64 Y)) w1.heap.size w2.heap.size 53 2 (some ⟨g, 0, none⟩) nx cx (cP (dd.set k ((k : Int) + 1, Y)))) := Lib.hid (by
                    have := HOXd.out.set (k * 2 + 1) (.int .i64 Y)
                    rwa [cP_setY dd k ((k : Int) + 1) y Y (by
                      have h1 := (getD_mem dd k hlk).1
                      rw [List.getElem?_eq_getElem hlk, ← h1]
                      have h2 := HCH.out.xs k hkN
                      have h3 := HY.out
                      unfold px at h2; unfold py at h3
                      rw [h3, ← h2])] at this)
                  have HB5 : Hid (Below w.heap.size w (wd.setCell ⟨g, k * 2 + 1, none⟩ (.int .i64 Y))) := Lib.hid (by rw [hwd]; exact HBW.out.drew.setCell (p := ⟨g, k * 2 + 1, none⟩) (by have := S0.out; show w.heap.size ≤ g; omega) _)
                  have HB45 : Hid (Below w.heap.size w4 (wd.setCell ⟨g, k * 2 + 1, none⟩ (.int .i64 Y))) := Lib.hid (by rw [hwd]; exact HB4.out.drew.setCell (p := ⟨g, k * 2 + 1, none⟩) (by have := S0.out; show w.heap.size ≤ g; omega) _)
                  have HZ5 : Hid (w4.heap.size ≤ (wd.setCell ⟨g, k * 2 + 1, none⟩ (.int .i64 Y)).heap.size) := Lib.hid (Nat.le_trans HZW.out HKD.out.size)
                  have hcx : (wd.setCell ⟨g, k * 2 + 1, none⟩ (.int .i64 Y)).cell? ⟨g, k * 2, none⟩ = some (.int .i64 ((k : Int) + 1)) := by
                    have := HOX5.out.cellAt (cP_get1 (dd.set k ((k : Int) + 1, Y)) k (by simpa using hlk))
                    rw [show ((dd.set k ((k : Int) + 1, Y)).getD k (0, 0)).1 = (k : Int) + 1 from (px_at ((k : Int) + 1) Y hlk).1] at this; exact this
                  have HC6 := Lib.hid (HCH.out.change hkN hYb)
                  have HW6 := Lib.hid (HCH.out.change_wr hkN (y := Y) (by rw [← HCH.out.rest k (Nat.le_refl _) hkN, ← HY.out]; exact hYn))
                  rw [← hY, ← hwd]
                  clear hY HKD HOXd hwd HY hYb hYn hc0 hc1 hf1 e1 e2 e3 e4 e5 e6 e7
                  have hzd : w4.heap.size ≤ wd.heap.size := by simpa using HZ5.out
                  have HL : Hid (Rd ((wd.setCell ⟨g, k * 2 + 1, none⟩ (.int .i64 Y)).alloc (.cells #[.int .i64 ((k : Int) + 1)] 3)) (wd.heap.size + 1) 1 (some ⟨wd.heap.size, 0, none⟩) 1 (cI [(k : Int) + 1])) := Lib.hid (lit_at (by
                    have := heap_alloc_new (wd.setCell ⟨g, k * 2 + 1, none⟩ (.int .i64 Y)) (.cells #[.int .i64 ((k : Int) + 1)] 3)
                    simpa using this))
                  clear HO HOX HBW HB4 HZW HCH
                  go_wp2_with (at_builtin
                               refine wpList_append_rd rfl (.tmp 112) (.tmp 118) _ rfl w4.heap.size 3 _ 1 8 Try.underlying26 info_int rfl (by decide) (.slice Aw m cw) m _ rfl (HO5.out.alloc _) _ _ 1 1 (cI [(k : Int) + 1]) rfl HL.out (cI_one _) (by unfold maxLen; omega) (by omega) (by simp; omega) ?_
                               intro v6 w6 hown hgr hat
                               obtain ⟨A6, c6, hv6, ho6⟩ := Ow.of_own hown
                               subst hv6
                               have HO6 : Hid (w6.ownsRow w4.heap.size 3 1 (.slice A6 (m + 1) c6) (m + 1) (cI (wrK (s :: t) (dd.set k ((k : Int) + 1, Y)) (k + 1)))) := Lib.hid (by rw [HW6.out, cI_append]; exact hown)
                               have HBB : Hid (Below w4.heap.size (wd.setCell ⟨g, k * 2 + 1, none⟩ (.int .i64 Y)) w6) := Lib.hid (below_grown ((Below.refl w4.heap.size (wd.setCell ⟨g, k * 2 + 1, none⟩ (.int .i64 Y))).alloc HZ5.out _) hgr (own_block HO5.out) (by simp; omega))
                               have HOX6 := Lib.hid (HOX5.out.below HBB.out S4.out.2)
                               have HB6 := Lib.hid (HB5.out.trans (HBB.out.mono B4.out.size))
                               have HB46 := Lib.hid (HB45.out.trans (HBB.out.mono B4.out.size))
                               have HZ6 := Lib.hid (Nat.le_trans HZ5.out HBB.out.size)
                               clear HBB hown hgr hat ho6)
                  go_roundw
                  case rel => exact ⟨k + 1, dd.set k ((k : Int) + 1, Y), A6, m + 1, c6, by omega, by go_num, rfl, by omega, Lib.hid (by omega), HC6, HO6, HOX6, HB6, HB46, HZ6⟩
                  case measure => simp [intOf] <;> omega
                · have HC1 := Lib.hid HCH.out.skip
                  have HW1 := Lib.hid (HCH.out.skip_wr (by have := HN4.out; omega))
                  have HO1 : Hid (wr.ownsRow w4.heap.size 3 1 (.slice Aw m cw) m (cI (wrK (s :: t) dd (k + 1)))) := Lib.hid (by rw [HW1.out]; exact HO.out)
                  go_wp2
                  go_roundw
                  case rel => exact ⟨k + 1, dd, Aw, m, cw, by omega, by go_num, rfl, by omega, HMM, HC1, HO1, HOX, HBW, HB4, HZW⟩
                  case measure => simp [intOf] <;> omega
              · have HC1 := Lib.hid HCH.out.skip
                have HW1 := Lib.hid (HCH.out.skip_wr (by have := HN4.out; omega))
                have HO1 : Hid (wr.ownsRow w4.heap.size 3 1 (.slice Aw m cw) m (cI (wrK (s :: t) dd (k + 1)))) := Lib.hid (by rw [HW1.out]; exact HO.out)
                go_wp2
                go_roundw
                case rel => exact ⟨k + 1, dd, Aw, m, cw, by omega, by go_num, rfl, by omega, HMM, HC1, HO1, HOX, HBW, HB4, HZW⟩
                case measure => simp [intOf] <;> omega
            · have hkN : k ≤ N.toNat := by have := HN4.out; omega
              have HWL : Hid (wrL (s :: t) dd = wrK (s :: t) dd k) := Lib.hid (HCH.out.wr hkN)
              have HLM : Hid ((wrK (s :: t) dd k).length = m) := Lib.hid (by have := HO.out.1; rw [cI_length] at this; omega)
              have HME := Lib.hid (mend_all HB.out HCH.out (by rw [HWL.out, HLM.out]; exact HMM.out))
              have hdl := HCH.out.len
              have hmk7 : m ≤ 1048576 := by omega
              have HWO := Lib.hid (own_done rfl HO.out hmk7)
              have hxo : OwPointS wr w1.heap.size w2.heap.size (.slice (some ⟨g, 0, none⟩) nx cx) dd := ⟨by omega, _, _, _, rfl, HOX.out⟩
              have HXO := Lib.hid hxo
              have HZ2 : Hid (w2.heap.size ≤ wr.heap.size) := Lib.hid (by have := S4.out; have := HZW.out; omega)
              have hsz : szPointS dd ≤ 1048576 := by unfold szPointS; omega
              clear hxo HO HOX hdl HCH HB4 HZW
              go_wp2_with fail
              refine (X_i_SharesMend _ dd t.length wr _ _ HXO.out HZ2.out hsz).mono ?_
              rintro e w7 ⟨gv, rfl, ho7, hb7⟩
              rw [HME.out.1, HME.out.2.2]
              rw [HME.out.2.1, HWL.out] at ho7
              obtain ⟨_, Ag, ng, cg, rfl, rg⟩ := ho7
              obtain rfl : ng = m := by have := rg.len; have := HLM.out; omega
              have HG7 := Lib.hid rg.rd
              have HW7 : Hid (Rd w7 w7.heap.size 1 Aw ng (cI (wrK (s :: t) dd k))) := Lib.hid (by
                obtain ⟨_, A0, n0, c0, he, r0⟩ := HWO.out.below hb7 (Nat.le_refl _)
                obtain ⟨rfl, rfl, rfl⟩ : A0 = Aw ∧ n0 = ng ∧ c0 = cw := by cases he; exact ⟨rfl, rfl, rfl⟩
                exact r0.rd.more hb7.size)
              have B7 := Lib.hid (HBW.out.trans (hb7.mono HBW.out.size))
              clear hb7 rg HME HWO HXO HBW HLM HWL
              go_wp2_with fail
              refine (u_uvIntsQ _ _ _ _ _ _ w7 HG7.out HW7.out hmk7).mono ?_
              rintro e w8 ⟨rfl, m8, rfl⟩
              go_wp2
              go_ret
              exact ⟨rfl, below_drewN B7.out _⟩
          · have hkN : k ≤ N.toNat := by have := HN4.out; omega
            have HWL : Hid (wrL (s :: t) dd = wrK (s :: t) dd k) := Lib.hid (HCH.out.wr hkN)
            have HLM : Hid ((wrK (s :: t) dd k).length = m) := Lib.hid (by have := HO.out.1; rw [cI_length] at this; omega)
            have HME := Lib.hid (mend_all HB.out HCH.out (by rw [HWL.out, HLM.out]; exact HMM.out))
            have hdl := HCH.out.len
            have hmk7 : m ≤ 1048576 := by omega
            have HWO := Lib.hid (own_done rfl HO.out hmk7)
            have hxo : OwPointS wr w1.heap.size w2.heap.size (.slice (some ⟨g, 0, none⟩) nx cx) dd := ⟨by omega, _, _, _, rfl, HOX.out⟩
            have HXO := Lib.hid hxo
            have HZ2 : Hid (w2.heap.size ≤ wr.heap.size) := Lib.hid (by have := S4.out; have := HZW.out; omega)
            have hsz : szPointS dd ≤ 1048576 := by unfold szPointS; omega
            clear hxo HO HOX hdl HCH HB4 HZW
            go_wp2_with fail
            refine (X_i_SharesMend _ dd t.length wr _ _ HXO.out HZ2.out hsz).mono ?_
            rintro e w7 ⟨gv, rfl, ho7, hb7⟩
            rw [HME.out.1, HME.out.2.2]
            rw [HME.out.2.1, HWL.out] at ho7
            obtain ⟨_, Ag, ng, cg, rfl, rg⟩ := ho7
            obtain rfl : ng = m := by have := rg.len; have := HLM.out; omega
            have HG7 := Lib.hid rg.rd
            have HW7 : Hid (Rd w7 w7.heap.size 1 Aw ng (cI (wrK (s :: t) dd k))) := Lib.hid (by
              obtain ⟨_, A0, n0, c0, he, r0⟩ := HWO.out.below hb7 (Nat.le_refl _)
              obtain ⟨rfl, rfl, rfl⟩ : A0 = Aw ∧ n0 = ng ∧ c0 = cw := by cases he; exact ⟨rfl, rfl, rfl⟩
              exact r0.rd.more hb7.size)
            have B7 := Lib.hid (HBW.out.trans (hb7.mono HBW.out.size))
            clear hb7 rg HME HWO HXO HBW HLM HWL
            go_wp2_with fail
            refine (u_uvIntsQ _ _ _ _ _ _ w7 HG7.out HW7.out hmk7).mono ?_
            rintro e w8 ⟨rfl, m8, rfl⟩
            go_wp2
            go_ret
            exact ⟨rfl, below_drewN B7.out _⟩
    · have h4 : (1048576 : Int) < (n2 : Int) := by omega
      go_enter Try.func15, Try.ntmps15
      go_wp2
      go_ret
      exact ⟨rfl, Below.refl _ _⟩
  · have h3 : (1048576 : Int) < (n : Int) := by omega
    go_enter Try.func15, Try.ntmps15
    go_wp2
    go_ret
    exact ⟨rfl, Below.refl _ _⟩
end Go.Proofs.Ytjpjmlcmaombnaa

/- An argument of type []byte, opened. -/
namespace Go.Proofs.Ytjpjmlcmaombnaa
open Go.RowKit
set_option maxRecDepth 100000

section
open Go.ChangeShapes Go.WideShapes Go.ChangeAt Go.RowKit
/-- an argument of type []byte: a list of bytes that reads -/
theorem open_byteS {H : Type} {enc : TypeId × Value → H} {P : Program} {w : World} {b0 : Nat} {t e : TypeId} {r : Reach} {v : Value} {d : DataW H} {ps : List MemPlace} (ht : P.underlying t = some (.slice e)) (he : P.underlying e = some (.int .u8)) (hc : P.cellsOf e = 1)
    (hv : Value.okWide P w r b0 t v) (h : DataW.Trod enc P w 0 (fun _ => true) true t v d ps) :
    ∃ A n c zs, v = .slice A n c ∧ n ≤ 9223372036854775807 ∧ n ≤ c ∧ Rd w w.heap.size 1 A n (cU zs) ∧ Byt zs := by
  obtain ⟨A, n, c, rfl⟩ : ∃ A n c, v = .slice A n c := by
    cases v <;> simp [Value.okWide, ht, Cell.okWide, Cell.ok] at hv
    exact ⟨_, _, _, rfl⟩
  obtain ⟨fuel, hf⟩ := h
  rcases open_ints ht he hc hf with ⟨hn, _⟩ | ⟨a, len, cap, zs, hs, _, hlc, hm, hlen, _, hcell, hwz⟩
  · simp [Value.cells] at hn
    obtain ⟨rfl, rfl, rfl⟩ := hn
    exact ⟨_, _, _, [], rfl, by omega, Nat.le_refl _, ⟨by simp [cU], fun h => by omega⟩, fun j => by simp⟩
  · simp [Value.cells] at hs
    obtain ⟨rfl, rfl, rfl⟩ := hs
    simp only [if_true] at hlen
    unfold maxLen at hm
    have hby : Byt zs := fun j => by
      by_cases hj : j < zs.length
      · have hw := hwz zs[j] (List.getElem_mem hj)
        simp only [Lit.wf, IntKind.min, IntKind.max, IntKind.signed, IntKind.bits, Bool.and_eq_true] at hw
        simp [hj]
        simp at hw
        omega
      · simp [List.getElem?_eq_none (show zs.length ≤ j by omega)]
    refine ⟨_, _, _, zs.take n, rfl, by omega, by omega, ⟨by rw [cU_length, List.length_take]; omega, fun hn => ⟨a, rfl, ?_, fun j u hu => ?_⟩⟩, hby.take _⟩
    · have := hcell 0 (by omega)
      exact World.block_lt_of_cell? (a := a.add 0) _ this
    · have hj : j < n := by
        have := (List.getElem?_eq_some_iff.1 hu).1
        rw [cU_length, List.length_take] at this; omega
      simp only [cU, List.map_take, List.getElem?_take, if_pos hj, List.getElem?_map, List.getElem?_eq_getElem (show j < zs.length by omega), Option.map_some, Option.some.injEq] at hu
      rw [← hu, hcell j (by omega)]
      simp [show j < zs.length by omega]
end
end Go.Proofs.Ytjpjmlcmaombnaa
