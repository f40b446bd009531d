import Derived.Test.YtpaaimmakkfbkaaDraw3
import Derived.Test.YtpaaimmakkfbkaaWalk5e
import Derived.RangeFuncNested
import Derived.RangeFuncCalls
import Derived.RangeFuncLeaves
import Derived.Shelf.Abstract
import Derived.OwnWalkIn
import Derived.TacticsInMore
import Derived.LoopNIn
import Derived.LoopIn
import Derived.Test.YtpaaimmakkfbkaaWalk3a
import Derived.Test.YtpaaimmakkfbkaaAppend
import Derived.Test.YtpaaimmakkfbkaaLaw
import Derived.Deep.QuietTactic
import Derived.BigQuiet
import Derived.Test.YtpaaimmakkfbkaaFaceI
import Derived.Test.YtpaaimmakkfbkaaWalk2a
import Derived.Test.YtpaaimmakkfbkaaWalk5c
import Derived.Test.YtpaaimmakkfbkaaDraw2b
/- What the plain laws draw from bytes: lists of numbers; a number alone. -/
namespace Go.Proofs.Ytpaaimmakkfbkaa
open Go.RowKit
set_option maxRecDepth 100000

set_option maxHeartbeats 1000000 in
theorem d_DrawNumOk (A : Option Addr) (n c : Nat) (bs : List Int) (w : World) (h : Rd w w.heap.size 1 A n (cU bs)) (hb : Byt bs) (hn : n ≤ 1048576) (hc : n ≤ c) :
    Calls Try.prog 8 #[.slice A n c] w fun e w' => ∃ s, e = .returned (.int .i64 s) ∧ (-1 ≤ s ∧ s ≤ 1000000007) ∧ Below w.heap.size w w' := by
  have H := Lib.hid h
  clear h
  go_enter Try.func8, Try.ntmps8
  go_wp2_with fail
  refine (d_l6Open _ _ _ _ _ H.out hb hn hc).mono ?_
  rintro e w1 ⟨rfl, ⟨A', n', c', bs', h1⟩, hb1⟩
  have H1 := Lib.hid h1
  have B1 := Lib.hid hb1
  clear h1 hb1
  go_wp2_with fail
  refine (d_l91Num _ _ _ _ _ _ _ _ H1.out (by omega)).mono ?_
  rintro e w2 ⟨z, q, rfl, hz, hq, h2, k2⟩
  have B2 : Hid (Below w.heap.size w w2) := Lib.hid (B1.out.trans (k2.to_below B1.out.size))
  clear h2 k2
  go_wp2
  go_ret
  exact ⟨_, rfl, hz, B2.out⟩
end Go.Proofs.Ytpaaimmakkfbkaa

/- What the plain laws draw from bytes: what SharesOf is asked. -/
namespace Go.Proofs.Ytpaaimmakkfbkaa
open Go.RowKit
set_option maxRecDepth 100000

theorem grow_int {w wr w6 : World} {g hi q k co : Nat} {Ao : Option Addr} {zs : List Int} {A : Option Addr} {n c : Nat} {bs : List Int} {o : Obj}
    (HO : wr.ownsRow w.heap.size 3 1 (.slice Ao k co) k (cI zs)) (HR : Rdr wr g hi q A n c bs) (HK : Kept g (g + 1) w wr) (hg : g < w.heap.size) (hgr : (wr.alloc o).grownBy w6 (Value.ownBlock (.slice Ao k co))) :
    Rdr w6 g hi q A n c bs ∧ Kept g (g + 1) w w6 := by
  have hz := HK.size
  have hlow := HR.low
  have hown := own_block HO
  constructor
  · refine HR.move ?_ ?_
    · rw [hgr.block g (by simp; have := HR.lt; omega) (fun e => by have := hown g e.symm; omega)]
      exact Below.heap_alloc wr o g HR.lt
    · exact below_grown ((Below.refl hi wr).alloc (by have := HR.lt; omega) o) hgr (fun k e => by have := hown k e; omega) (by simp; have := HR.lt; omega)
  · refine ⟨hgr.os.trans HK.os, hgr.tape.trans HK.tape, hgr.output.trans HK.output, Nat.le_trans hz (Nat.le_trans (by simp) hgr.size), fun k hk hn => ?_⟩
    rw [hgr.block k (by simp; omega) (fun e => by have := hown k e.symm; omega), Below.heap_alloc wr o k (by omega)]
    exact HK.block k hk hn

set_option maxHeartbeats 2000000 in
theorem d_l91Nums (g hi p M : Nat) (A : Option Addr) (n c : Nat) (bs : List Int) (w : World) (h : Rdr w g hi p A n c bs) (hp : p < 900000) (hM : M ≤ 7) :
    Calls Try.prog 25 #[.pointer (some ⟨g, 0, none⟩), .int .i64 M] w fun e w' => ∃ v d q, e = .returned v ∧ OwIntS w' w.heap.size w'.heap.size v d ∧ d.length = M ∧ q ≤ p + 35 ∧ Rdr w' g hi q A n c bs ∧ Kept g (g + 1) w w' := by
  have HG := Lib.hid h.lt
  have H0 := Lib.hid (h.alloc (.cells #[] 3))
  have K0 := Lib.hid (kept_alloc g (g + 1) w (.cells #[] 3))
  have O0 : Hid ((w.alloc (.cells #[] 3)).ownsRow w.heap.size 3 1 (.slice (some ⟨w.heap.size, 0, none⟩) 0 0) 0 (cI [])) := Lib.hid (own_empty w _ 1)
  clear h
  go_enter Try.func25, Try.ntmps25
  go_wp2
  go_loopw [5, 6] (fun out i wr => ∃ (k : Nat) (Ao : Option Addr) (co q : Nat) (zs : List Int), k ≤ M ∧ q ≤ p + 5 * k ∧ i = .int .i64 k ∧ out = .slice Ao k co ∧ Hid (wr.ownsRow w.heap.size 3 1 (.slice Ao k co) k (cI zs)) ∧ Hid (Rdr wr g hi q A n c bs) ∧ Hid (Kept g (g + 1) w wr)) (fun _ i _ => M - (intOf i).toNat)
  case atStart => exact ⟨0, _, 0, p, [], Nat.zero_le _, by omega, rfl, rfl, O0, H0, K0⟩
  case round =>
    clear O0 H0 K0
    obtain ⟨k, Ao, co, q, zs, hk, hq, rfl, rfl, HO, HR, HK⟩ := hrel
    by_cases hlt : k < M
    · have i1 : (k : Int) < (M : Int) := by omega
      go_wp2_with fail
      refine (d_l91Num _ _ _ _ _ _ _ _ HR.out (by omega)).mono ?_
      rintro e w2 ⟨y, q2, rfl, _, hq2, h2, k2⟩
      have HO2 := Lib.hid (own_keptG HO.out k2 HG.out)
      have HR2 := Lib.hid h2
      have HK2 := Lib.hid (HK.out.trans k2)
      clear h2 k2 HO HR HK
      have hzw := HK2.out.size
      have HL : Hid (Rd (w2.alloc (.cells #[.int .i64 y] 3)) (w2.heap.size + 1) 1 (some ⟨w2.heap.size, 0, none⟩) 1 (cI [y])) := Lib.hid (lit_at (heap_alloc_new _ _))
      go_wp2_with (at_builtin
                   refine wpList_append_rd rfl (.tmp 13) (.tmp 16) _ rfl w.heap.size 3 _ 1 8 Try.underlying23 info_int rfl (by decide) (.slice Ao k co) k _ rfl (HO2.out.alloc _) _ _ 1 1 (cI [y]) rfl HL.out (cI_one _) (by unfold maxLen; omega) (by omega) (by simp; omega) ?_
                   intro v6 w6 hown hgr hat
                   obtain ⟨A6, c6, hv6, ho6⟩ := Ow.of_own hown
                   subst hv6
                   have HO6 : Hid (w6.ownsRow w.heap.size 3 1 (.slice A6 (k + 1) c6) (k + 1) (cI (zs ++ [y]))) := Lib.hid (by rw [cI_append]; exact hown)
                   have HG6 := grow_int HO2.out HR2.out HK2.out HG.out hgr
                   have HR6 := Lib.hid HG6.1
                   have HK6 := Lib.hid HG6.2
                   clear HG6 hown hgr hat ho6)
      go_roundw
      case rel => exact ⟨k + 1, A6, c6, _, _, by omega, by omega, by go_num, rfl, HO6, HR6, HK6⟩
      case measure => simp [intOf] <;> omega
    · obtain rfl : M = k := by omega
      have HD : Hid (OwIntS wr w.heap.size wr.heap.size (.slice Ao M co) zs ∧ zs.length = M) := Lib.hid ⟨own_done rfl HO.out (by omega), by have := HO.out.1; rw [cI_length] at this; omega⟩
      go_wp2
      go_ret
      exact ⟨_, _, _, rfl, HD.out.1, HD.out.2, by omega, HR.out, HK.out⟩
end Go.Proofs.Ytpaaimmakkfbkaa

/- What the plain laws draw from bytes: what SharesOf is asked, whole. -/
namespace Go.Proofs.Ytpaaimmakkfbkaa
open Go.RowKit
set_option maxRecDepth 100000

theorem three {j : Nat} (h : (j : Int) < 3) : j = 0 ∨ j = 1 ∨ j = 2 := by omega

set_option maxHeartbeats 2000000 in
theorem d_l91SharesOf (g hi p : Nat) (A : Option Addr) (n c : Nat) (bs : List Int) (w : World) (h : Rdr w g hi p A n c bs) (hp : p < 800000) :
    Calls Try.prog 12 #[.pointer (some ⟨g, 0, none⟩)] w fun e w' => ∃ s N v d q, e = .returned (.tuple #[.int .i64 s, .int .i64 N, v]) ∧ (-1 ≤ s ∧ s ≤ 1000000007) ∧ (-1 ≤ N ∧ N ≤ 8) ∧ OwIntS w' w.heap.size w'.heap.size v d ∧ d.length ≤ 6 ∧ q ≤ p + 50 ∧ Rdr w' g hi q A n c bs ∧ Kept g (g + 1) w w' := by
  have HG := Lib.hid h.lt
  have H := Lib.hid h
  clear h
  go_enter Try.func12, Try.ntmps12
  go_wp2_with fail
  refine (d_pick _ _ _ _ _ _ _ _ _ H.out (by omega) (by omega) (by omega)).mono ?_
  rintro e w1 ⟨z0, rfl, z00, z01, h1, k1⟩
  have H1 := Lib.hid h1
  have K1 := Lib.hid k1
  clear h1 k1 H
  have iw : IntKind.i64.wrap (1 + z0) = 1 + z0 := IntWalk.i64_in _ (by omega)
  go_wp2_with fail
  refine (d_pick _ _ _ _ _ _ _ _ _ H1.out (by omega) (by omega) (by omega)).mono ?_
  rintro e w2 ⟨m, rfl, m0, m1, h2, k2⟩
  have H2 := Lib.hid h2
  have K2 := Lib.hid (K1.out.trans k2)
  clear h2 k2 H1 K1
  obtain ⟨M, rfl⟩ := Int.eq_ofNat_of_zero_le m0
  go_wp2_with fail
  refine (d_l91Nums _ _ _ M _ _ _ _ _ H2.out (by omega) (by omega)).mono ?_
  rintro e w3 ⟨v, d, q3, rfl, ho, hd, hq3, h3, k3⟩
  have H3 := Lib.hid h3
  have K3 := Lib.hid (K2.out.trans k3)
  have O3 := Lib.hid (ho.widen K2.out.size (Nat.le_refl _))
  clear h3 k3 H2 K2 ho
  go_wp2_with fail
  refine (d_pick _ _ _ _ _ _ _ _ _ H3.out (by omega) (by omega) (by omega)).mono ?_
  rintro e w4 ⟨z1, rfl, z10, z11, h4, k4⟩
  have H4 := Lib.hid h4
  have K4 := Lib.hid (K3.out.trans k4)
  have O4 := Lib.hid ((O3.out.kept k4 (Nat.le_refl _) (.inl HG.out)).widen (Nat.le_refl _) k4.size)
  clear h4 k4 H3 K3 O3
  by_cases hz : z1 = 0
  · have hb : (z1 == 0) = true := by simp [hz]
    clear hz
    go_wp2_with fail
    refine (d_pick _ _ _ _ _ _ _ _ _ (H4.out.alloc _) (by omega) (by omega) (by omega)).mono ?_
    rintro e w5 ⟨z2, rfl, z20, z21, h5, k5⟩
    obtain ⟨j, rfl⟩ := Int.eq_ofNat_of_zero_le z20
    have hc := lit4 _ k5 H4.out.lt
    have H5 := Lib.hid h5
    have k45 := (kept_alloc g (g + 1) w4 _).trans k5
    have K5 := Lib.hid (K4.out.trans k45)
    have O5 := Lib.hid ((O4.out.kept k45 (Nat.le_refl _) (.inl HG.out)).widen (Nat.le_refl _) k45.size)
    clear h5 k5 k45 H4 K4 O4
    rcases three z21 with rfl | rfl | rfl
    all_goals
      have hc0 := hc 0 _ rfl
      have hc1 := hc 1 _ rfl
      have hc2 := hc 2 _ rfl
      clear hc
      go_wp2_with fail
      refine (d_l91Num _ _ _ _ _ _ _ _ H5.out (by omega)).mono ?_
      rintro e w6 ⟨s, q6, rfl, hs, hq6, h6, k6⟩
      have H6 := Lib.hid h6
      have K6 := Lib.hid (K5.out.trans k6)
      have O6 := Lib.hid ((O5.out.kept k6 (Nat.le_refl _) (.inl HG.out)).widen (Nat.le_refl _) k6.size)
      clear h6 k6 H5 K5 O5
      go_wp2
      go_ret3
      exact ⟨_, _, _, _, _, rfl, hs, by omega, O6.out, by omega, by omega, H6.out, K6.out⟩
  · have hb : (z1 == 0) = false := by rw [beq_eq_false_iff_ne]; exact hz
    clear hz
    go_wp2_with fail
    refine (d_l91Num _ _ _ _ _ _ _ _ H4.out (by omega)).mono ?_
    rintro e w6 ⟨s, q6, rfl, hs, hq6, h6, k6⟩
    have H6 := Lib.hid h6
    have K6 := Lib.hid (K4.out.trans k6)
    have O6 := Lib.hid ((O4.out.kept k6 (Nat.le_refl _) (.inl HG.out)).widen (Nat.le_refl _) k6.size)
    clear h6 k6 H4 K4 O4
    go_wp2
    go_ret3
    exact ⟨_, _, _, _, _, rfl, hs, by omega, O6.out, by omega, by omega, H6.out, K6.out⟩
end Go.Proofs.Ytpaaimmakkfbkaa

/- Chapter 4: the program's closures and its iterator over shares. -/
namespace Go.Proofs.Ytpaaimmakkfbkaa
open Go.RowKit Go.Shelf
theorem i_shares (cnt : Nat) (fn : Fn) (bs lb : Array Value) (w : World) :
    Calls Try.prog 34 #[.int .i64 cnt, .func fn bs lb] w fun e w' => e = .returned (.func (.func 42) #[] #[.pointer (some ⟨w.heap.size, 0, none⟩), .pointer (some ⟨w.heap.size + 1, 0, none⟩)]) ∧ w' = (w.alloc (.cells #[.int .i64 cnt] 3)).alloc (.cells #[.func fn bs lb] 58) := by
  go_enter Try.func34, Try.ntmps34
  go_wp2
  go_ret
  exact ⟨rfl, rfl⟩

/-- what a round keeps -/
def KpS (n₀ Bs : Nat) (sv : Value) (W W' : World) : Prop := Below n₀ W W' ∧ (Boxed W Bs 58 sv → Boxed W' Bs 58 sv)
theorem KpS_t {n₀ Bs : Nat} {sv : Value} {A B C : World} (h : KpS n₀ Bs sv A B) (k : KpS n₀ Bs sv B C) : KpS n₀ Bs sv A C := ⟨h.1.trans k.1, fun x => k.2 (h.2 x)⟩
theorem KpS_b {n₀ Bs : Nat} {sv : Value} {w : World} (hn : n₀ ≤ w.heap.size) (W : World) (l : Nat) (o o' : Obj) (hl : w.heap.size ≤ l) (h : W.heap[l]? = some o) (hc : o.isCells = false) (hw : o.isWalk = false) : KpS n₀ Bs sv W (W.putObj l o') :=
  ⟨belowK_b hn W l o o' hl h hc hw, fun hb => by
    by_cases e : Bs = l
    · subst e; rw [show W.heap[Bs]? = _ from hb] at h; cases h; cases hc
    · exact (World.putObj_heap_other (fun e' => e e')).trans hb⟩
def uptoF (f : Nat → Int × Int) (k : Nat) : List (Int × Int) := (List.range k).map f
theorem uptoF_succ (f : Nat → Int × Int) (k : Nat) : uptoF f (k + 1) = uptoF f k ++ [f k] := by simp [uptoF, List.range_succ]
theorem uptoF_length (f : Nat → Int × Int) (k : Nat) : (uptoF f k).length = k := by simp [uptoF]
theorem grown_of_below {w w' : World} (h : Below w.heap.size w w') : w.grownBy w' none := ⟨h.os, h.tape, h.output, h.size, fun k hk _ => h.block k hk⟩
def encP (p : Int × Int) : Array Value := #[.agg #[.int .i64 p.1, .int .i64 p.2]]
end Go.Proofs.Ytpaaimmakkfbkaa

/- Chapter 4: the iterator and what lists it, over SharesScale's closure. -/
namespace Go.Proofs.Ytpaaimmakkfbkaa
open Go.RowKit Go.Shelf
end Go.Proofs.Ytpaaimmakkfbkaa

/- Chapter 4: the list of what an iterator over shares gives, over SharesScale's closure. -/
namespace Go.Proofs.Ytpaaimmakkfbkaa
open Go.RowKit Go.Shelf
set_option maxRecDepth 100000
attribute [local go_sem] Oper.semAt_some

theorem run_make0 {P : Program} {t e : TypeId} {z : Value} {bytes size : Nat} (ht : P.underlying t = some (.slice e)) (hi : (P.info? e).map (fun i => (i.zero, i.size, i.bytes)) = some (some z, size, bytes))
    (n : Nat) (hb : bytes * n ≤ 281474976710656) (hn : n ≤ 9223372036854775807) (w : World) :
    (Instr.makeSlice t (.int .i64 0) (.int .i64 (n : Int))).run P w = .ok (.slice (some ⟨w.heap.size, 0, none⟩) 0 n) (w.alloc (.cells (madeCells z.cells (n * size)) e)) := by
  obtain ⟨i, hi, hz0, hz1, hz2⟩ := info_parts hi
  have hb' : (i.bytes : Int) * (n : Int) ≤ 281474976710656 := by
    have h : ((i.bytes * n : Nat) : Int) ≤ 281474976710656 := by rw [hz2]; omega
    rwa [Int.natCast_mul] at h
  have hr := run_make (P := P) w t e i z ht hi hz0 .i64 .i64 0 n (by omega) (by omega) hb' (by omega)
  simp only [Int.toNat_natCast, hz1] at hr
  exact hr
theorem own_make0 (w : World) (cs : Array Value) (e size n : Nat) (hs : cs.size = n * size) (hn : n ≤ maxLen) : (w.alloc (.cells cs e)).ownsRow w.heap.size e size (.slice (some ⟨w.heap.size, 0, none⟩) 0 n) 0 [] :=
  ⟨by simp, .inr ⟨w.heap.size, n, cs, rfl, Nat.le_refl _, heap_alloc_new _ _, Nat.zero_le _, hn, hs, by simp⟩⟩
theorem cell_two_new (w : World) (x y : Value) (t : TypeId) : ∀ j u, [x, y][j]? = some u → (w.alloc (.cells #[x, y] t)).cell? ((⟨w.heap.size, 0, none⟩ : Addr).add j) = some u := by
  intro j u hj
  rw [addr_add, Nat.zero_add, World.cell?_alloc_new]
  simpa using hj
theorem madeCells_size (z : Array Value) (n : Nat) : (madeCells z n).size = n := by simp [madeCells]

end Go.Proofs.Ytpaaimmakkfbkaa

/- Chapter 4: SharesOf in the model. -/
namespace Go.Proofs.Ytpaaimmakkfbkaa
open Go.RowKit Go.Shelf
set_option maxRecDepth 100000

def shF (cs : List Int) (i : Nat) : Int × Int := ((i : Int) + 1, atI cs ((i : Int) + 1))
def ofB (s n : Int) (t : List Int) : Bool := numB s && (numsB t && (inB n 1 7 && decide ((t.length : Int) < n)))
def R_SharesOf_1 (s n : Int) (t : List Int) : Bool := ofB s n t
def R_SharesOf_0 (s n : Int) (t : List Int) : List (Int × Int) := if ofB s n t = true then uptoF (shF (s :: t)) n.toNat else []
theorem of_no {s n : Int} {t : List Int} (h : ofB s n t = false) : Hid (R_SharesOf_1 s n t = false ∧ R_SharesOf_0 s n t = []) := Lib.hid ⟨h, by unfold R_SharesOf_0; rw [h]; rfl⟩
theorem nums_cons {s : Int} {t : List Int} (h : 0 ≤ s ∧ s ≤ 112) (ht : Nums t) : Nums (s :: t) := fun j => by
  cases j with
  | zero => exact h
  | succ j => exact ht j
theorem lit_int (w : World) (s : Int) : (w.alloc (.cells #[.int .i64 s] 3)).ownsRow w.heap.size 3 1 (.slice (some ⟨w.heap.size, 0, none⟩) 1 1) 1 [.int .i64 s] :=
  ⟨rfl, .inr ⟨w.heap.size, 1, _, rfl, Nat.le_refl _, heap_alloc_new _ _, Nat.le_refl _, by unfold maxLen; omega, rfl, rfl⟩⟩
/-- another row is none of this type's blocks -/
theorem own_other {w : World} {B e t n s g : Nat} {v : Value} {xs : List Value} {cs : Array Value} (h : w.ownsRow B e s v n xs) (hte : e ≠ t) (hg : w.heap[g]? = some (.cells cs t (0, 0))) : v.ownBlock ≠ some g := by
  intro e1
  rcases h.2 with ⟨rfl, _⟩ | ⟨g', cap, cur, rfl, _, hh, _⟩
  · simp [Value.ownBlock] at e1
  · simp [Value.ownBlock] at e1
    subst e1
    rw [hg] at hh; injection hh with hh; injection hh with _ ht
    exact hte ht.symm

set_option maxHeartbeats 2000000 in
theorem s_l4Of (s : Int) (N : Nat) (A : Option Addr) (m c : Nat) (zs : List Int) (w : World) (h : Rd w w.heap.size 1 A m (cI zs)) (hm : m ≤ 1000) (hN : N ≤ 7) (hs : 0 ≤ s ∧ s ≤ 112) (hz : Nums zs) :
    Calls Try.prog 20 #[.int .i64 s, .int .i64 N, .slice A m c] w fun e w' => ∃ g, e = .returned g ∧ OwPointS w' w.heap.size w'.heap.size g (uptoF (shF (s :: zs)) N) ∧ Below w.heap.size w w' := by
  have HNU := Lib.hid (nums_cons hs hz)
  have HLN := Lib.hid h.len
  have HL : Hid ((w.alloc (.cells #[] 46)).heap.size = w.heap.size + 1) := Lib.hid (by simp)
  have HBa := Lib.hid ((Below.refl w.heap.size w).alloc (Nat.le_refl _) (.cells #[] 46))
  have HOa : Hid ((w.alloc (.cells #[] 46)).ownsRow w.heap.size 46 2 (.slice (some ⟨w.heap.size, 0, none⟩) 0 0) 0 (cP (uptoF (shF (s :: zs)) 0))) := Lib.hid (own_empty w _ 2)
  have HRa : Hid (Rd (w.alloc (.cells #[] 46)) w.heap.size 1 A m (cI zs)) := Lib.hid (h.below HBa.out)
  clear h
  go_enter Try.func20, Try.ntmps20
  have HLIT := Lib.hid (lit_int (w.alloc (.cells #[] 46)) s)
  have HZ2 : Hid ((w.alloc (.cells #[] 46)).heap.size ≤ ((w.alloc (.cells #[] 46)).alloc (.cells #[.int .i64 s] 3)).heap.size) := Lib.hid (by simp)
  have HR2 : Hid (Rd ((w.alloc (.cells #[] 46)).alloc (.cells #[.int .i64 s] 3)) w.heap.size 1 A m (cI zs)) := Lib.hid (HRa.out.below ((Below.refl _ _).alloc (by simp) _))
  have HO2 : Hid (((w.alloc (.cells #[] 46)).alloc (.cells #[.int .i64 s] 3)).ownsRow w.heap.size 46 2 (.slice (some ⟨w.heap.size, 0, none⟩) 0 0) 0 (cP (uptoF (shF (s :: zs)) 0))) := Lib.hid (HOa.out.alloc _)
  have HB2 : Hid (Below w.heap.size w ((w.alloc (.cells #[] 46)).alloc (.cells #[.int .i64 s] 3))) := Lib.hid (HBa.out.alloc (by simp) _)
  go_wp2_with (at_builtin
               refine wpList_append_rd rfl (.tmp 12) (.tmp 13) _ rfl (w.alloc (.cells #[] 46)).heap.size 3 _ 1 8 Try.underlying23 info_int rfl (by decide) (.slice (some ⟨w.heap.size + 1, 0, none⟩) 1 1) 1 [.int .i64 s] rfl (by have := HLIT.out; simp only [World.size_alloc] at this ⊢; exact this) _ A m c (cI zs) rfl HR2.out (cI_one _) (by unfold maxLen; omega) (by omega) HZ2.out ?_
               intro v5 w5 hown hgr hat
               obtain ⟨A5, c5, hv5, ho5⟩ := Ow.of_own hown
               subst hv5
               obtain ⟨gp, cp, hA5, gp1, gp2, hgp, htk⟩ := ho5.lt (by omega)
               subst hA5
               have HGP : Hid (w5.heap[gp]? = some (.cells cp 3 (0, 0)) ∧ cp.toList.take ((1 + m) * 1) = cI (s :: zs) ∧ w.heap.size ≤ gp ∧ 1 + m ≤ c5) := Lib.hid ⟨hgp, htk, by have := HL.out; omega, ho5.2.1⟩
               have HB5 : Hid (Below w.heap.size w w5) := Lib.hid (below_grown HB2.out hgr (fun g e => by simp [Value.ownBlock] at e; omega) (by have := HZ2.out; have := HL.out; omega))
               have HO5 : Hid (w5.ownsRow w.heap.size 46 2 (.slice (some ⟨w.heap.size, 0, none⟩) 0 0) 0 (cP (uptoF (shF (s :: zs)) 0))) := Lib.hid (HO2.out.kept hgr (.inr (by simp [Value.ownBlock])))
               clear hown hgr hat ho5 gp1 gp2 hgp htk)
  clear HOa HRa HLIT HZ2 HR2 HO2 HB2 HBa HL
  go_loopw [7, 9] (fun out i wr => ∃ (k : Nat) (Ao : Option Addr) (co : Nat), k ≤ N ∧ i = .int .i64 ((k : Int) + 1) ∧ out = .slice Ao k co ∧ Hid (wr.ownsRow w.heap.size 46 2 (.slice Ao k co) k (cP (uptoF (shF (s :: zs)) k))) ∧ Hid (Below w.heap.size w wr) ∧ Hid (wr.heap[gp]? = some (.cells cp 3 (0, 0)))) (fun _ i _ => N + 1 - (intOf i).toNat)
  case atStart => exact ⟨0, _, 0, Nat.zero_le _, rfl, rfl, HO5, HB5, Lib.hid HGP.out.1⟩
  case round =>
    clear HO5 HB5
    obtain ⟨k, Ao, co, hk, rfl, rfl, HO, HB, HC⟩ := hrel
    by_cases hlt : k < N
    · have i0 : (0 : Int) ≤ (k : Int) := by omega
      have i1 : (k : Int) + 1 ≤ (N : Int) := by omega
      have HRp : Hid (Rd wr wr.heap.size 1 (some ⟨gp, 0, none⟩) (1 + m) (cI (s :: zs))) := Lib.hid (Ow.rd (w := wr) (lo := w.heap.size) (e := 3) (c := c5) ⟨by rw [cI_length, List.length_cons, HLN.out]; omega, HGP.out.2.2.2, .inr ⟨gp, cp, rfl, HGP.out.2.2.1, (Array.getElem?_eq_some_iff.1 HC.out).1, HC.out, HGP.out.2.1⟩⟩)
      go_wp2_with fail
      refine (s_l2At _ _ _ _ _ _ HRp.out HNU.out (by omega) (by omega) (by omega)).mono ?_
      rintro e w2 ⟨rfl, rfl⟩
      have hzw := HB.out.size
      have HOl := Lib.hid (HO.out.alloc (.cells #[.int .i64 ((k : Int) + 1), .int .i64 (atI (s :: zs) ((k : Int) + 1))] 46))
      have HLP : Hid (Rd (wr.alloc (.cells #[.int .i64 ((k : Int) + 1), .int .i64 (atI (s :: zs) ((k : Int) + 1))] 46)) (wr.heap.size + 1) 2 (some ⟨wr.heap.size, 0, none⟩) 1 (cP [((k : Int) + 1, atI (s :: zs) ((k : Int) + 1))])) := Lib.hid (lit_pt_at (heap_alloc_new _ _))
      go_wp2_with (at_builtin
                   refine wpList_append_rd rfl (.tmp 20) (.tmp 26) _ rfl w.heap.size 46 _ 2 16 Try.underlying26 info_pt rfl (by decide) (.slice Ao k co) k _ rfl HOl.out _ _ 1 1 (cP [((k : Int) + 1, atI (s :: zs) ((k : Int) + 1))]) rfl HLP.out (cP_one _) (by unfold maxLen; omega) (by omega) (by simp; omega) ?_
                   intro v6 w6 hown hgr hat
                   obtain ⟨A6, c6, hv6, ho6⟩ := Ow.of_own hown
                   subst hv6
                   have HO6 : Hid (w6.ownsRow w.heap.size 46 2 (.slice A6 (k + 1) c6) (k + 1) (cP (uptoF (shF (s :: zs)) (k + 1)))) := Lib.hid (by rw [uptoF_succ, cP_append]; exact hown)
                   have HB6 : Hid (Below w.heap.size w w6) := Lib.hid (below_grown (HB.out.alloc hzw _) hgr (own_block HO.out) (by simp; omega))
                   have HC6 : Hid (w6.heap[gp]? = some (.cells cp 3 (0, 0))) := Lib.hid ((hgr.block gp (by have := (Array.getElem?_eq_some_iff.1 HC.out).1; simp; omega) (fun e => own_other HO.out (by decide) HC.out e.symm)).trans ((Below.heap_alloc _ _ _ (Array.getElem?_eq_some_iff.1 HC.out).1).trans HC.out))
                   clear hown hgr hat ho6)
      go_roundw
      case rel => exact ⟨k + 1, A6, c6, by omega, by go_num, rfl, HO6, HB6, HC6⟩
      case measure => simp [intOf] <;> omega
    · obtain rfl : N = k := by omega
      have HOr : Hid (OwPointS wr w.heap.size wr.heap.size (.slice Ao N co) (uptoF (shF (s :: zs)) N)) := Lib.hid (done_pts HO.out (by omega))
      go_wp2
      go_ret
      exact ⟨_, rfl, HOr.out, HB.out⟩
end Go.Proofs.Ytpaaimmakkfbkaa

/- Chapter 4: the iterator and the list over given's closure (made from XWalk5g, XWalk5h by tools/gen5.py) -/
namespace Go.Proofs.Ytpaaimmakkfbkaa
open Go.RowKit Go.Shelf
set_option maxRecDepth 100000
attribute [local go_sem] Oper.semAt_some

set_option maxHeartbeats 2000000 in
theorem i_it_given (b1 l Bn Bs n₀ cnt m : Nat) (hm : 1 ≤ m) (f : Nat → Int × Int) (w0 : World)
    (hS : ∀ W k, Below n₀ w0 W → k < cnt → Calls Try.prog 28 #[.int .i64 k, .pointer (some ⟨b1, 0, none⟩)] W fun e W' => e = .returned (.agg #[.int .i64 (f k).1, .int .i64 (f k).2]) ∧ Below W.heap.size W W')
    (hcnt : cnt ≤ 1048576) (J Jx : List (Int × Int) → World → Prop) (W : World) (hJ : AbidesFrom W.heap.size J)
    (hY : ∀ pre x W1, J pre W1 → pre.length < cnt → YieldAt Fence.wide (m - 1) Try.prog l (encP x) W1 fun e W' =>
      (e = .returned (.bool true) ∧ J (pre ++ [x]) W' ∧ KpS n₀ Bs (.func (.func 28) #[] #[.pointer (some ⟨b1, 0, none⟩)]) W1 W') ∨ (e = .returned (.bool false) ∧ Jx (pre ++ [x]) W'))
    (hBn : W.cell? ⟨Bn, 0, none⟩ = some (.int .i64 cnt)) (hBs : Boxed W Bs 58 (.func (.func 28) #[] #[.pointer (some ⟨b1, 0, none⟩)])) (hn₀ : n₀ ≤ W.heap.size) (hbel : Below n₀ w0 W) (h0 : J [] W) :
    CallsIn Fence.wide m Try.prog 42 #[.func (.yield l) #[] #[], .pointer (some ⟨Bn, 0, none⟩), .pointer (some ⟨Bs, 0, none⟩)] W fun e W' => (∃ v, e = .returned v) ∧
      ((∃ ys, ys = uptoF f cnt ∧ J ys W') ∨ (∃ pre, True ∧ Jx pre W')) := by
  have hm1 : 1 ≤ m := hm
  refine callsIn_of_wp Try.func42 rfl trivial ?_ rfl
  simp only [Try.ntmps42, List.size_toArray, List.length_cons, List.length_nil, Nat.reduceAdd, Nat.reduceSub, Array.replicate_succ, Array.replicate_zero, List.push_toArray, List.append_toArray, List.nil_append, List.cons_append]
  gi_wp2
  gi_loopw [6] (fun i wr => ∃ k : Nat, k ≤ cnt ∧ i = .int .i64 k ∧ J (uptoF f k) wr ∧ Hid (Below n₀ w0 wr) ∧ Hid (n₀ ≤ wr.heap.size) ∧ Hid (Boxed wr Bs 58 (.func (.func 28) #[] #[.pointer (some ⟨b1, 0, none⟩)])))
    (fun i _ => cnt - (intOf i).toNat)
  case atStart => exact ⟨0, Nat.zero_le _, rfl, h0, Lib.hid hbel, Lib.hid hn₀, Lib.hid hBs⟩
  case round =>
    obtain ⟨k, hk, rfl, hJs, HBL, HZ, HBS⟩ := hrel
    by_cases hlt : k < cnt
    · have hcs := HBS.out.cell
      have i0 : (0 : Int) ≤ (k : Int) := by omega
      have i1 : (k : Int) < (cnt : Int) := by omega
      gi_wp2_with (refine ⟨trivial, ?_⟩
                   gi_at_call 28
                   refine (callsIn_wide.2 (hS _ k HBL.out hlt)).mono ?_
                   rintro e W1 ⟨rfl, hb1⟩
                   have hJ1 := hJ _ _ _ none hJs (grown_of_below hb1) (fun r e => by cases e)
                   have HBS1 : Hid (Boxed W1 Bs 58 (.func (.func 28) #[] #[.pointer (some ⟨b1, 0, none⟩)])) := Lib.hid (HBS.out.kept (grown_of_below hb1) (by simp))
                   have HBL1 : Hid (Below n₀ w0 W1) := Lib.hid (HBL.out.trans (hb1.mono HZ.out))
                   have HZ1 : Hid (n₀ ≤ W1.heap.size) := Lib.hid (Nat.le_trans HZ.out hb1.size)
                   obtain ⟨fn, tmps, assign, body, hy, hR⟩ := hY _ (f k) W1 hJ1 (by rw [uptoF_length]; exact hlt)
                   simp only [encP] at hy
                   clear hb1 HBL HZ HBS hJs hcs)
      refine hR.mono ?_
      rintro e W3 (⟨rfl, hJ3, hk3⟩ | ⟨rfl, hJx3⟩)
      · have HK3 := Lib.hid hk3
        clear hk3
        gi_wp2
        go_roundw
        case rel => exact ⟨k + 1, by omega, by go_num, by rw [uptoF_succ]; exact hJ3, Lib.hid (HBL1.out.trans HK3.out.1), Lib.hid (Nat.le_trans HZ1.out HK3.out.1.size), Lib.hid (HK3.out.2 HBS1.out)⟩
        case measure => simp [intOf] <;> omega
      · gi_wp2
        refine bodyPost_ret (results_none rfl _ _ _) rfl ?_
        exact ⟨⟨_, rfl⟩, .inr ⟨_, trivial, hJx3⟩⟩
    · obtain rfl : k = cnt := by omega
      gi_wp2
      go_end0
      exact ⟨⟨_, rfl⟩, .inl ⟨_, rfl, hJs⟩⟩
theorem stops_given (b1 Bn Bs n₀ cnt m : Nat) (hm : 1 ≤ m) (f : Nat → Int × Int) (w0 w : World)
    (hS : ∀ W k, Below n₀ w0 W → k < cnt → Calls Try.prog 28 #[.int .i64 k, .pointer (some ⟨b1, 0, none⟩)] W fun e W' => e = .returned (.agg #[.int .i64 (f k).1, .int .i64 (f k).2]) ∧ Below W.heap.size W W')
    (hcnt : cnt ≤ 1048576) (hlt : Bn < w.heap.size) (hBn : w.cell? ⟨Bn, 0, none⟩ = some (.int .i64 cnt)) (hBs : Boxed w Bs 58 (.func (.func 28) #[] #[.pointer (some ⟨b1, 0, none⟩)])) (hn₀ : n₀ ≤ w.heap.size) (hbel : Below n₀ w0 w) :
    SeqStopsK Fence.wide m Try.prog 42 #[.pointer (some ⟨Bn, 0, none⟩), .pointer (some ⟨Bs, 0, none⟩)] encP (KpS n₀ Bs (.func (.func 28) #[] #[.pointer (some ⟨b1, 0, none⟩)])) (fun ys => ys = uptoF f cnt) (fun _ => True) cnt w := fun l J Jx W hW hJ _ hY h0 =>
  i_it_given b1 l Bn Bs n₀ cnt m hm f w0 hS hcnt J Jx W hJ hY ((hW.cell (p := ⟨Bn, 0, none⟩) hlt).trans hBn) ((hW.block Bs hBs.lt).trans hBs) (Nat.le_trans hn₀ hW.size) (hbel.trans (hW.mono hn₀)) h0

set_option maxHeartbeats 4000000 in
theorem i_listed_given (b1 cnt : Nat) (hcnt : cnt ≤ 1048576) (f : Nat → Int × Int) (w : World)
    (hS : ∀ W k, Below w.heap.size w W → k < cnt → Calls Try.prog 28 #[.int .i64 k, .pointer (some ⟨b1, 0, none⟩)] W fun e W' => e = .returned (.agg #[.int .i64 (f k).1, .int .i64 (f k).2]) ∧ Below W.heap.size W W') :
    Calls Try.prog 27 #[.int .i64 cnt, .func (.func 28) #[] #[.pointer (some ⟨b1, 0, none⟩)]] w fun e w' => ∃ g, e = .returned g ∧ OwPointS w' w.heap.size w'.heap.size g (uptoF f cnt) ∧ Below w.heap.size w w' := by
  refine (callsIn_wide (n := 9)).1 ?_
  obtain ⟨i0, hi, hz0, hz1, hz2⟩ := info_parts info_pt
  have hmk := fun W => run_make0 (P := Try.prog) Try.underlying26 info_pt cnt (by omega) (by omega) W
  have hcap : (madeCells (Value.agg #[.int .i64 0, .int .i64 0]).cells (cnt * 2)).size = cnt * 2 := madeCells_size _ _
  obtain ⟨cs, hcs⟩ : ∃ cs, madeCells (Value.agg #[.int .i64 0, .int .i64 0]).cells (cnt * 2) = cs := ⟨_, rfl⟩
  rw [hcs] at hmk hcap
  have HCAP := Lib.hid hcap
  clear hcs hcap
  have c0 : (0 : Int) ≤ (cnt : Int) := by omega
  refine callsIn_of_wp_marks Try.func27 rfl trivial ?_ rfl
  simp only [Try.ntmps27, List.size_toArray, List.length_cons, List.length_nil, Nat.reduceAdd, Nat.reduceSub, Array.replicate_succ, Array.replicate_zero, List.push_toArray, List.append_toArray, List.nil_append, List.cons_append]
  gi_wp2_with (refine ⟨trivial, ?_⟩
               gi_at_call 34
               refine (callsIn_wide.2 (i_shares _ _ _ _ _)).mono ?_
               rintro e w' ⟨rfl, rfl⟩)
  have bL := ((Boxed.new (w.alloc (.cells cs 46)) 26 (.slice (some ⟨w.heap.size, 0, none⟩) 0 cnt)).alloc (.cells #[.int .i64 cnt] 3)).alloc (.cells #[(.func (.func 28) #[] #[.pointer (some ⟨b1, 0, none⟩)])] 58)
  have bN := (Boxed.new ((w.alloc (.cells cs 46)).alloc (.cells #[.slice (some ⟨w.heap.size, 0, none⟩) 0 cnt] 26)) 3 (.int .i64 cnt)).alloc (.cells #[(.func (.func 28) #[] #[.pointer (some ⟨b1, 0, none⟩)])] 58)
  have bS := Boxed.new (((w.alloc (.cells cs 46)).alloc (.cells #[.slice (some ⟨w.heap.size, 0, none⟩) 0 cnt] 26)).alloc (.cells #[.int .i64 cnt] 3)) 58 (.func (.func 28) #[] #[.pointer (some ⟨b1, 0, none⟩)])
  have hrow := (((own_make0 w cs 46 2 cnt HCAP.out (by unfold maxLen; omega)).alloc (.cells #[.slice (some ⟨w.heap.size, 0, none⟩) 0 cnt] 26)).alloc (.cells #[.int .i64 cnt] 3)).alloc (.cells #[(.func (.func 28) #[] #[.pointer (some ⟨b1, 0, none⟩)])] 58)
  simp only [World.size_alloc] at bL bN bS
  have hB0 := ((((Below.refl w.heap.size w).alloc (Nat.le_refl _) (.cells cs 46)).alloc (by simp) (.cells #[.slice (some ⟨w.heap.size, 0, none⟩) 0 cnt] 26)).alloc (by simp; omega) (.cells #[.int .i64 cnt] 3)).alloc (by simp; omega) (.cells #[(.func (.func 28) #[] #[.pointer (some ⟨b1, 0, none⟩)])] 58)
  have hsz : ((((w.alloc (.cells cs 46)).alloc (.cells #[.slice (some ⟨w.heap.size, 0, none⟩) 0 cnt] 26)).alloc (.cells #[.int .i64 cnt] 3)).alloc (.cells #[(.func (.func 28) #[] #[.pointer (some ⟨b1, 0, none⟩)])] 58)).heap.size = w.heap.size + 4 := by simp
  obtain ⟨W0, hW0⟩ : ∃ W0, (((w.alloc (.cells cs 46)).alloc (.cells #[.slice (some ⟨w.heap.size, 0, none⟩) 0 cnt] 26)).alloc (.cells #[.int .i64 cnt] 3)).alloc (.cells #[(.func (.func 28) #[] #[.pointer (some ⟨b1, 0, none⟩)])] 58) = W0 := ⟨_, rfl⟩
  rw [hW0] at bL bN bS hrow hB0 hsz ⊢
  clear hW0 hmk
  refine wpIn_rangeFunc_ownH rfl (by decide) (gf := 42) (lb := #[.pointer (some ⟨w.heap.size + 1 + 1, 0, none⟩), .pointer (some ⟨w.heap.size + 1 + 1 + 1, 0, none⟩)]) rfl trivial (enters_of Try.func42 (by kernel_rfl) rfl)
    (stops_given b1 (w.heap.size + 1 + 1) (w.heap.size + 1 + 1 + 1) w.heap.size cnt (9 - 1) (by decide) f w W0 hS hcnt (by omega) bN.cell bS (by omega) hB0) KpS_t (KpS_b (by omega)) (Below.refl _ _) (fun _ => rfl)
    (fun pre W => ((∃ v, Boxed W (w.heap.size + 1) 26 v ∧ W.ownsRow w.heap.size 46 2 v pre.length (cP pre) ∧ True) ∧ Below w.heap.size w W))
    (fun _ _ _ => False)
    (OwnFrom.and (Own.from (holdsRow_own w.heap.size (w.heap.size + 1) 26 46 2 (fun (pre : List (Int × Int)) => pre.length) (fun pre => cP pre) (fun _ _ => True)) _) (ownFrom_below (Nat.le_refl _) (by omega)))
    (fun _ _ _ _ _ hs _ _ => hs)
    ⟨⟨_, bL, hrow, trivial⟩, hB0⟩
    (fun x a' W => ∃ Bx, w.heap.size ≤ Bx ∧ W.heap[Bx]? = some (.cells #[.int .i64 x.1, .int .i64 x.2] 46 (0, 0)) ∧ a' = { tmps := #[.int .i64 cnt, (.func (.func 28) #[] #[.pointer (some ⟨b1, 0, none⟩)]), undef, undef, .slice none 0 0, .pointer (some ⟨w.heap.size + 1, 0, none⟩), .pointer (some ⟨Bx, 0, none⟩), .int .i64 cnt, .slice (some ⟨w.heap.size, 0, none⟩) 0 cnt, .int .i64 cnt, (.func (.func 28) #[] #[.pointer (some ⟨b1, 0, none⟩)]), .func (.func 42) #[] #[.pointer (some ⟨w.heap.size + 1 + 1, 0, none⟩), .pointer (some ⟨w.heap.size + 1 + 1 + 1, 0, none⟩)], .agg #[.int .i64 x.1, .int .i64 x.2], undef, undef, undef, undef, undef], defers := [] })
    (fun x a' _ X Y row hs hg hr => by
      obtain ⟨Bx, h1, h2, h3⟩ := hs
      refine ⟨Bx, h1, (hg.block Bx (Array.getElem?_eq_some_iff.1 h2).1 (fun e => ?_)).trans h2, h3⟩
      obtain ⟨_, o, ho, hc⟩ := hr Bx e.symm
      rw [h2] at ho; cases ho; cases hc)
    ?assign ?body ?done ?stop
  case assign =>
    rintro l pre x W K ⟨⟨v, hv, hr, _⟩, hB⟩ hK
    simp only [encP]
    gi_wp2
    exact hK _ _ ((KeepsOthers.alloc _ _).from _) ⟨(Below.refl _ W).alloc hB.size _, fun h => h.alloc _⟩ ⟨⟨v, hv.alloc _, hr.alloc _, trivial⟩, hB.alloc hB.size _⟩ ⟨W.heap.size, hB.size, heap_alloc_new _ _, rfl⟩
  case body =>
    rintro l pre x a' W hl ⟨r, hr⟩ ⟨⟨v, hv, hrow, _⟩, hB⟩ ⟨Bx, hBx, bX, rfl⟩ hlt
    have cL := hv.cell
    have cX0 : W.cell? ⟨Bx, 0, none⟩ = some (.int .i64 x.1) := by rw [cell_of_row W Bx 0 _ _ _ bX]; rfl
    have cX1 : W.cell? ⟨Bx, 1, none⟩ = some (.int .i64 x.2) := by rw [cell_of_row W Bx 1 _ _ _ bX]; rfl
    gi_wp2_with (gi_at_builtin
                 refine wpListIn_append_own _ rfl _ _ 26 rfl w.heap.size 46 i0 _ 2 16 Try.underlying26 hi hz0 hz1 hz2 rfl (by decide) _ _ _ rfl (hrow.alloc _) ⟨W.heap.size, 0, none⟩ 1 1 [.int .i64 x.1, .int .i64 x.2] rfl rfl (cell_two_new _ _ _ _) (by simp [Value.oneCell']) (by unfold maxLen; omega) (by omega) (by have := hB.size; simp; omega) ?_
                 intro v' w1 hown' hgrow _
                 obtain ⟨g', cap', rfl⟩ := ownsRow_succ hown'
                 obtain ⟨hv1, hv2, hr2, hk2, hb2⟩ := hv.appended (by decide) hrow hB.size (by omega) hown' hgrow
                 have hc1 := hv1.cell
                 have hf1 := hv1.frozen
                 have hbs : Boxed W (w.heap.size + 1 + 1 + 1) 58 (.func (.func 28) #[] #[.pointer (some ⟨b1, 0, none⟩)]) → Boxed (w1.setCell ⟨w.heap.size + 1, 0, none⟩ (.slice (some ⟨g', 0, none⟩) (pre.length + 1) cap')) (w.heap.size + 1 + 1 + 1) 58 (.func (.func 28) #[] #[.pointer (some ⟨b1, 0, none⟩)]) := fun h =>
                   ((h.alloc _).kept hgrow (h.not_row (by decide) hrow)).other (by omega) _)
    exact ⟨hk2.from _, ⟨hb2, hbs⟩, ⟨⟨_, hv2, by rw [cP_append, List.length_append]; exact hr2, trivial⟩, hB.trans hb2⟩⟩
  case done =>
    rintro D ys W hD rfl ⟨⟨v, hv, hrow, _⟩, hB⟩ hK
    have cL := hv.cell
    gi_wp2
    refine ⟨by simp, .inl ⟨_, _, rfl, run_takeDeferred hK, ?_⟩⟩
    refine ⟨_, results_tmp rfl _ _ _, v, rfl, ?_, hB.trans (belowK_b (w := w) (Nat.le_refl _) W D _ _ (by omega) hK rfl rfl)⟩
    exact done_pts (ownsRow_putObj hrow _ hK rfl) (by rw [uptoF_length]; exact hcnt)
  case stop =>
    rintro D c pre W _ _ h _
    exact h.elim
end Go.Proofs.Ytpaaimmakkfbkaa

/- append where the two types differ in name. -/
namespace Go.Proofs.Ytpaaimmakkfbkaa
open Go.RowKit

theorem append_types {P : Program} {t t2 ty e e2 : TypeId} (ht : P.underlying t = some (.slice e)) (ht2 : P.underlying t2 = some (.slice e2)) (args : Array Value) (w : World) :
    (Builtin.append_ #[t, t2] ty args).run P w = (Builtin.append_ #[t, t] ty args).run P w := by
  unfold Builtin.append_
  cases args[0]? <;> cases args[1]? <;> simp [run_underlying ht]
  split <;> simp [run_underlying ht, run_underlying ht2]
theorem wpList_append_rd2 {P : Program} {w : World} {ops : Array Oper} {rest : List Oper} {o : Oper} {a : Act} {Q : Exit → Act → World → Prop} (hgd : o.guard = none) (s x : Operand) (t t2 e2 : TypeId)
    (ho : o.op = .call { callee := .builtin .append, args := #[s, x], argTypes := #[t, t2] })
    (base : Nat) (e : TypeId) (z : Value) (size bytes : Nat) (ht : P.underlying t = some (.slice e)) (ht2 : P.underlying t2 = some (.slice e2)) (hi : (P.info? e).map (fun i => (i.zero, i.size, i.bytes)) = some (some z, size, bytes))
    (hzs : z.cells.size = size) (hsz : 0 < size) (v : Value) (n : Nat) (xs : List Value) (hs : a.eval s = v) (hown : w.ownsRow base e size v n xs)
    (hb : Nat) (A : Option Addr) (m c : Nat) (news : List Value) (hx : a.eval x = .slice A m c) (hr : Rd w hb size A m news) (h1 : ∀ u ∈ news, u.oneCell' = true)
    (h63 : n + m ≤ maxLen) (hbytes : (n + m) * bytes ≤ 140737488355328) (hbase : base ≤ w.heap.size)
    (h : ∀ v' w', w'.ownsRow base e size v' (n + m) (xs ++ news) → w.grownBy w' v.ownBlock → (v'.ownBlock = v.ownBlock ∨ v'.ownBlock = some w.heap.size) → wpList P ops Q rest (a.put o.dst v') w') :
    wpList P ops Q (o :: rest) a w := by
  refine wpList_plain hgd fun K hK => ?_
  obtain ⟨v', w', hrun, h2, h3, h4⟩ := run_append_rd (P := P) (w := w) base t o.type e z size bytes ht hi hzs hsz v n xs hown hb A m c news hr h1 h63 hbytes hbase
  rw [← append_types ht ht2] at hrun
  unfold Oper.wp execOp
  simp only [ho, resolve, invoke, builtin, Sem.run_bind, Sem.run_pure, Result.andThen_ok, List.map_toArray, List.map_cons, List.map_nil, hs, hx, hrun]
  exact hK _ _ (h v' w' h2 h3 h4)
end Go.Proofs.Ytpaaimmakkfbkaa

/- Chapter 4: SharesOf, in the model and in the program. -/
namespace Go.Proofs.Ytpaaimmakkfbkaa
open Go.RowKit Go.Shelf
set_option maxRecDepth 100000

set_option maxHeartbeats 1000000 in
theorem i_secretWith (s : Int) (A : Option Addr) (m c : Nat) (zs : List Int) (w : World) (h : Rd w w.heap.size 1 A m (cI zs)) (hm : m ≤ 1000) :
    Calls Try.prog 16 #[.int .i64 s, .slice A m c] w fun e w' => ∃ A' c', e = .returned (.slice A' (1 + m) c') ∧ Ow w' w.heap.size w'.heap.size 3 1 A' (1 + m) c' (cI (s :: zs)) ∧ Below w.heap.size w w' := by
  have HLIT := Lib.hid (lit_int w s)
  have HRD : Hid (Rd (w.alloc (.cells #[.int .i64 s] 3)) w.heap.size 1 A m (cI zs)) := Lib.hid (h.below ((Below.refl _ _).alloc (Nat.le_refl _) _))
  clear h
  go_enter Try.func16, Try.ntmps16
  go_wp2_with (at_builtin
               refine wpList_append_rd2 rfl (.tmp 6) (.tmp 7) 41 23 3 rfl w.heap.size 3 _ 1 8 Try.underlying41 Try.underlying23 info_int rfl (by decide) (.slice (some ⟨w.heap.size, 0, none⟩) 1 1) 1 [.int .i64 s] rfl HLIT.out _ A m c (cI zs) rfl HRD.out (cI_one _) (by unfold maxLen; omega) (by omega) (by simp) ?_
               intro v5 w5 hown hgr hat
               obtain ⟨A5, c5, hv5, ho5⟩ := Ow.of_own hown
               subst hv5
               have HO5 : Hid (Ow w5 w.heap.size w5.heap.size 3 1 A5 (1 + m) c5 (cI (s :: zs))) := Lib.hid ho5
               have HB5 : Hid (Below w.heap.size w w5) := Lib.hid (below_grown ((Below.refl _ _).alloc (Nat.le_refl _) _) hgr (fun g e => by simp [Value.ownBlock] at e; omega) (by simp))
               clear hown hgr hat ho5)
  go_ret
  exact ⟨_, _, rfl, HO5.out, HB5.out⟩

set_option maxHeartbeats 1000000 in
theorem i_given1 (b1 : Nat) (A : Option Addr) (n c k : Nat) (cs : List Int) (w : World) (hb1 : w.cell? ⟨b1, 0, none⟩ = some (.slice A n c)) (hl1 : b1 < w.heap.size) (H : Rd w w.heap.size 1 A n (cI cs)) (hn : n ≤ 1048576) (hz : Nums cs) (hk : k < 20) :
    Calls Try.prog 28 #[.int .i64 k, .pointer (some ⟨b1, 0, none⟩)] w fun e w' => e = .returned (.agg #[.int .i64 (shF cs k).1, .int .i64 (shF cs k).2]) ∧ Below w.heap.size w w' := by
  have HB := (Below.refl w.heap.size w).alloc (Nat.le_refl _) (.cells #[.int .i64 0, .int .i64 0] 46)
  have hc1 := (HB.cell (p := ⟨b1, 0, none⟩) hl1).trans hb1
  have HRD := Lib.hid ((H.below HB).more (show w.heap.size ≤ (w.alloc (.cells #[.int .i64 0, .int .i64 0] 46)).heap.size by simp))
  have HBB := Lib.hid HB
  have hn0 : (w.alloc (.cells #[.int .i64 0, .int .i64 0] 46)).cell? ⟨w.heap.size, 0, none⟩ = some (.int .i64 0) := World.cell?_alloc_new w _ _ 0
  have hn1 : (w.alloc (.cells #[.int .i64 0, .int .i64 0] 46)).cell? ⟨w.heap.size, 1, none⟩ = some (.int .i64 0) := World.cell?_alloc_new w _ _ 1
  have hf := fun j => (Ow.new w #[.int .i64 0, .int .i64 0] 46 2 1 rfl).free (by omega) j
  have HNU := Lib.hid hz
  clear H HB hz
  have i0 : (0 : Int) ≤ (k : Int) := by omega
  have i1 : (k : Int) < 20 := by omega
  have hf0 := hf 0
  have hf1 := hf 1
  clear hf
  obtain ⟨W1, HW1⟩ : ∃ W1, Hid (w.alloc (.cells #[.int .i64 0, .int .i64 0] 46) = W1) := ⟨_, Lib.hid rfl⟩
  have HC1 := Lib.hid hc1
  have HN0 := Lib.hid (And.intro hn0 (And.intro hn1 (And.intro hf0 hf1)))
  clear hc1 hn0 hn1 hf0 hf1
  rw [HW1.out] at HC1 HN0 HBB HRD
  go_enter Try.func28, Try.ntmps28
  go_wp2_with fail
  rw [HW1.out]
  clear hb1
  refine (i_polynomial_at _ _ _ _ _ _ HRD.out HNU.out hn (by omega) (by omega)).mono ?_
  rintro e w2 ⟨rfl, q, rfl⟩
  obtain ⟨hn0, hn1, hf0, hf1⟩ := HN0.out
  go_wp2
  refine bodyPost_ret (v := .agg #[.int .i64 ((k : Int) + 1), .int .i64 (atI cs ((k : Int) + 1))]) (by simp [results, Try.results28, go_sem, hn0, hn1]) rfl ⟨rfl, ?_⟩
  exact ((below_drewN HBB.out q).setCell (p := ⟨w.heap.size, 0, none⟩) (Nat.le_refl _) _).setCell (p := ⟨w.heap.size, 1, none⟩) (Nat.le_refl _) _

set_option maxHeartbeats 1000000 in
theorem i_given (A : Option Addr) (n c N : Nat) (cs : List Int) (w : World) (H : Rd w w.heap.size 1 A n (cI cs)) (hn : n ≤ 1048576) (hz : Nums cs) (hN : N ≤ 20) :
    Calls Try.prog 15 #[.slice A n c, .int .i64 N] w fun e w' => ∃ g, e = .returned g ∧ OwPointS w' w.heap.size w'.heap.size g (uptoF (shF cs) N) ∧ Below w.heap.size w w' := by
  obtain ⟨w0, HW0⟩ : ∃ w0, Hid (w.alloc (.cells #[.slice A n c] 41) = w0) := ⟨_, Lib.hid rfl⟩
  have HB0 : Hid (Below w.heap.size w w0) := Lib.hid (HW0.out ▸ (Below.refl _ _).alloc (Nat.le_refl _) _)
  have HZ0 : Hid (w0.heap.size = w.heap.size + 1) := Lib.hid (by rw [← HW0.out]; simp)
  have HRD : Hid (Rd w0 w0.heap.size 1 A n (cI cs)) := Lib.hid ((H.below HB0.out).more (by have := HZ0.out; omega))
  have HC1 : Hid (w0.cell? ⟨w.heap.size, 0, none⟩ = some (.slice A n c)) := Lib.hid (by rw [← HW0.out]; exact (Boxed.new w _ _).cell)
  clear H
  go_enter Try.func15, Try.ntmps15
  go_wp2_with fail
  rw [HW0.out]
  refine (i_listed_given w.heap.size N (by omega) (shF cs) _ (fun W k hW hk => ?_)).mono ?_
  · exact i_given1 w.heap.size A n c k cs W ((hW.cell (p := ⟨w.heap.size, 0, none⟩) (by have := HZ0.out; simp; omega)).trans HC1.out) (by have := HZ0.out; have := hW.size; omega) ((HRD.out.below hW).more hW.size) hn hz (by omega)
  · rintro e w3 ⟨g, rfl, ho, hb3⟩
    have HO := Lib.hid (ho.widen (show w.heap.size ≤ _ by have := HZ0.out; omega) (Nat.le_refl _))
    have HB3 := Lib.hid (HB0.out.trans (hb3.mono (by have := HZ0.out; omega)))
    clear ho hb3
    go_wp2
    go_ret
    exact ⟨_, rfl, HO.out, HB3.out⟩
end Go.Proofs.Ytpaaimmakkfbkaa

/- Chapter 4: SharesOf as the laws meet it. -/
namespace Go.Proofs.Ytpaaimmakkfbkaa
open Go.RowKit Go.Shelf
set_option maxRecDepth 100000

set_option maxHeartbeats 2000000 in
theorem X_s_SharesOf (v : Value) (s n : Int) (d : List Int) (w : World) (h : RdIntS w w.heap.size v d) (hs : szIntS d ≤ 1048576) :
    Calls Try.prog 6 #[.int .i64 s, .int .i64 n, v] w fun e w' => ∃ g, e = .returned (.tuple #[g, .bool (R_SharesOf_1 s n d)]) ∧ OwPointS w' w.heap.size w'.heap.size g (R_SharesOf_0 s n d) ∧ Below w.heap.size w w' := by
  obtain ⟨A, m, c, rfl, hm, r⟩ := h
  have hn : m ≤ 1048576 := by have := r.len; unfold szIntS at hs; omega
  have hl := Lib.hid r.len
  have H := Lib.hid r
  clear r hs hm
  cases h1 : numB s
  · have HF := of_no (s := s) (n := n) (t := d) (by simp [ofB, h1])
    go_enter Try.func6, Try.ntmps6
    go_wp2_with fail
    refine (s_NumOk _ _).mono ?_
    rintro e w1 ⟨rfl, rfl⟩
    rw [h1]
    go_wp2
    go_ret2
    refine ⟨_, ret_vb HF.out.1.symm, ?_, Below.refl _ _⟩
    rw [HF.out.2]; exact OwPointS.nil_ _ _ _
  · cases h2 : numsB d
    · have HF := of_no (s := s) (n := n) (t := d) (by simp [ofB, h2])
      go_enter Try.func6, Try.ntmps6
      go_wp2_with fail
      refine (s_NumOk _ _).mono ?_
      rintro e w1 ⟨rfl, rfl⟩
      rw [h1]
      go_wp2_with fail
      refine (s_l1In _ _ _ _ _ H.out hn).mono ?_
      rintro e w1 ⟨rfl, rfl⟩
      rw [h2]
      go_wp2
      go_ret2
      refine ⟨_, ret_vb HF.out.1.symm, ?_, Below.refl _ _⟩
      rw [HF.out.2]; exact OwPointS.nil_ _ _ _
    · by_cases h3 : 1 ≤ n ∧ n ≤ 7
      · obtain ⟨N, rfl⟩ := Int.eq_ofNat_of_zero_le (show 0 ≤ n by omega)
        have HI := Lib.hid (inB_t h3)
        have hs1 := Lib.hid ((numB_iff s).1 h1)
        have hd1 := Lib.hid (nums_of_B h2)
        by_cases h4 : m < N
        · have HX : Hid (ofB s N d = true) := Lib.hid (by
            unfold ofB; rw [h1, h2, HI.out, hl.out, decide_eq_true (by omega)]; rfl)
          have HF1 : Hid (R_SharesOf_1 s N d = true) := Lib.hid HX.out
          have HF2 : Hid (R_SharesOf_0 s N d = uptoF (shF (s :: d)) N) := Lib.hid (by unfold R_SharesOf_0; rw [if_pos HX.out]; rfl)
          have HN7 : Hid (N ≤ 7) := Lib.hid (by omega)
          have HM : Hid (m ≤ 1000) := Lib.hid (by omega)
          have h5 : ¬ ((N : Int) ≤ (m : Int)) := by omega
          have h6 : (m : Int) < (N : Int) := by omega
          clear h3
          go_enter Try.func6, Try.ntmps6
          go_wp2_with fail
          refine (s_NumOk _ _).mono ?_
          rintro e w1 ⟨rfl, rfl⟩
          rw [h1]
          go_wp2_with fail
          refine (s_l1In _ _ _ _ _ H.out hn).mono ?_
          rintro e w1 ⟨rfl, rfl⟩
          rw [h2]
          clear h1 h2
          go_wp2_with fail
          refine (s_l6In _ _ _ _).mono ?_
          rintro e w1 ⟨rfl, rfl⟩
          rw [HI.out]
          go_wp2_with fail
          refine (s_l4Of _ _ _ _ _ _ _ H.out HM.out HN7.out hs1.out hd1.out).mono ?_
          rintro e w2 ⟨g, rfl, ho, hb⟩
          have HO := Lib.hid ho
          have HB := Lib.hid hb
          clear ho hb
          go_wp2
          go_ret2
          exact ⟨_, ret_vb HF1.out.symm, by rw [HF2.out]; exact HO.out, HB.out⟩
        · have HF := of_no (s := s) (n := N) (t := d) (by unfold ofB; rw [hl.out, decide_eq_false (by omega)]; simp)
          have h5 : (N : Int) ≤ (m : Int) := by omega
          clear h3
          go_enter Try.func6, Try.ntmps6
          go_wp2_with fail
          refine (s_NumOk _ _).mono ?_
          rintro e w1 ⟨rfl, rfl⟩
          rw [h1]
          go_wp2_with fail
          refine (s_l1In _ _ _ _ _ H.out hn).mono ?_
          rintro e w1 ⟨rfl, rfl⟩
          rw [h2]
          clear h1 h2
          go_wp2_with fail
          refine (s_l6In _ _ _ _).mono ?_
          rintro e w1 ⟨rfl, rfl⟩
          rw [HI.out]
          go_wp2
          go_ret2
          refine ⟨_, ret_vb HF.out.1.symm, ?_, Below.refl _ _⟩
          rw [HF.out.2]; exact OwPointS.nil_ _ _ _
      · have HI := Lib.hid (inB_f h3)
        have HF := of_no (s := s) (n := n) (t := d) (by unfold ofB; rw [HI.out]; simp)
        clear h3
        go_enter Try.func6, Try.ntmps6
        go_wp2_with fail
        refine (s_NumOk _ _).mono ?_
        rintro e w1 ⟨rfl, rfl⟩
        rw [h1]
        go_wp2_with fail
        refine (s_l1In _ _ _ _ _ H.out hn).mono ?_
        rintro e w1 ⟨rfl, rfl⟩
        rw [h2]
        clear h1 h2
        go_wp2_with fail
        refine (s_l6In _ _ _ _).mono ?_
        rintro e w1 ⟨rfl, rfl⟩
        rw [HI.out]
        go_wp2
        go_ret2
        refine ⟨_, ret_vb HF.out.1.symm, ?_, Below.refl _ _⟩
        rw [HF.out.2]; exact OwPointS.nil_ _ _ _

set_option maxHeartbeats 2000000 in
theorem X_i_SharesOf (v : Value) (s n : Int) (d : List Int) (w : World) (h : RdIntS w w.heap.size v d) (hs : szIntS d ≤ 1048576) :
    Calls Try.prog 5 #[.int .i64 s, .int .i64 n, v] w fun e w' => ∃ g, e = .returned (.tuple #[g, .bool (R_SharesOf_1 s n d)]) ∧ OwPointS w' w.heap.size w'.heap.size g (R_SharesOf_0 s n d) ∧ Below w.heap.size w w' := by
  obtain ⟨A, m, c, rfl, hm, r⟩ := h
  have hn : m ≤ 1048576 := by have := r.len; unfold szIntS at hs; omega
  have hl := Lib.hid r.len
  have H := Lib.hid r
  clear r hs hm
  cases h1 : numB s
  · have HF := of_no (s := s) (n := n) (t := d) (by simp [ofB, h1])
    go_enter Try.func5, Try.ntmps5
    go_wp2_with fail
    refine (i_NumOk _ _).mono ?_
    rintro e w1 ⟨rfl, rfl⟩
    rw [h1]
    go_wp2
    go_ret2
    refine ⟨_, ret_vb HF.out.1.symm, ?_, Below.refl _ _⟩
    rw [HF.out.2]; exact OwPointS.nil_ _ _ _
  · cases h2 : numsB d
    · have HF := of_no (s := s) (n := n) (t := d) (by simp [ofB, h2])
      go_enter Try.func5, Try.ntmps5
      go_wp2_with fail
      refine (i_NumOk _ _).mono ?_
      rintro e w1 ⟨rfl, rfl⟩
      rw [h1]
      go_wp2_with fail
      refine (i_numbersOk _ _ _ _ _ H.out hn).mono ?_
      rintro e w1 ⟨rfl, rfl⟩
      rw [h2]
      go_wp2
      go_ret2
      refine ⟨_, ret_vb HF.out.1.symm, ?_, Below.refl _ _⟩
      rw [HF.out.2]; exact OwPointS.nil_ _ _ _
    · by_cases h3 : (1 ≤ n ∧ n ≤ 7) ∧ (m : Int) < n
      · obtain ⟨⟨h31, h37⟩, h4⟩ := h3
        obtain ⟨N, rfl⟩ := Int.eq_ofNat_of_zero_le (show 0 ≤ n by omega)
        have HX : Hid (ofB s N d = true) := Lib.hid (by
          unfold ofB; rw [h1, h2, inB_t ⟨h31, h37⟩, hl.out, decide_eq_true h4]; rfl)
        have hs1 := Lib.hid ((numB_iff s).1 h1)
        have hd1 := Lib.hid (nums_of_B h2)
        have HF1 : Hid (R_SharesOf_1 s N d = true) := Lib.hid HX.out
        have HF2 : Hid (R_SharesOf_0 s N d = uptoF (shF (s :: d)) N) := Lib.hid (by unfold R_SharesOf_0; rw [if_pos HX.out]; rfl)
        have HN7 : Hid (N ≤ 7) := Lib.hid (by omega)
        have HM : Hid (m ≤ 1000) := Lib.hid (by omega)
        go_enter Try.func5, Try.ntmps5
        go_wp2_with fail
        refine (i_NumOk _ _).mono ?_
        rintro e w1 ⟨rfl, rfl⟩
        rw [h1]
        go_wp2_with fail
        refine (i_numbersOk _ _ _ _ _ H.out hn).mono ?_
        rintro e w1 ⟨rfl, rfl⟩
        rw [h2]
        clear h1 h2
        go_wp2_with fail
        refine (i_secretWith _ _ _ _ _ _ H.out HM.out).mono ?_
        rintro e w2 ⟨A2, c2, rfl, ho, hb⟩
        have HRD := Lib.hid ho.rd
        have HB2 := Lib.hid hb
        clear ho hb
        go_wp2_with fail
        refine (i_given _ _ _ _ _ _ HRD.out (by have := HM.out; omega) (nums_cons hs1.out hd1.out) (Nat.le_trans HN7.out (by decide))).mono ?_
        rintro e w3 ⟨g, rfl, ho, hb⟩
        have HO := Lib.hid (ho.widen HB2.out.size (Nat.le_refl _))
        have HB3 := Lib.hid (HB2.out.trans (hb.mono HB2.out.size))
        clear ho hb
        go_wp2
        go_ret2
        exact ⟨_, ret_vb HF1.out.symm, by rw [HF2.out]; exact HO.out, HB3.out⟩
      · have HF := of_no (s := s) (n := n) (t := d) (by
          unfold ofB
          by_cases h5 : 1 ≤ n ∧ n ≤ 7
          · rw [hl.out, decide_eq_false (fun h => h3 ⟨h5, h⟩)]; simp
          · rw [inB_f h5]; simp)
        have h5 : n < 1 ∨ 7 < n ∨ n ≤ (m : Int) := by omega
        clear h3
        by_cases k1 : n < 1
        all_goals by_cases k2 : 7 < n
        all_goals
          go_enter Try.func5, Try.ntmps5
          go_wp2_with fail
          refine (i_NumOk _ _).mono ?_
          rintro e w1 ⟨rfl, rfl⟩
          rw [h1]
          go_wp2_with fail
          refine (i_numbersOk _ _ _ _ _ H.out hn).mono ?_
          rintro e w1 ⟨rfl, rfl⟩
          rw [h2]
          go_wp2
          all_goals first
            | (go_ret2
               refine ⟨_, ret_vb HF.out.1.symm, ?_, Below.refl _ _⟩
               rw [HF.out.2]; exact OwPointS.nil_ _ _ _)
            | (exfalso; omega)
end Go.Proofs.Ytpaaimmakkfbkaa

/- P26: what SharesExplain tells gives just these shares. -/
namespace Go.Proofs.Ytpaaimmakkfbkaa
open Go.RowKit
set_option maxRecDepth 100000

theorem expl_at {s : Int} {d : List (Int × Int)} (h : R_SharesExplain_1 s d = true) (i : Nat) (hi : i < d.length) :
    (1 ≤ px d i ∧ px d i ≤ 7) ∧ atI (s :: expL s d) (px d i) = py d i := by
  simp only [R_SharesExplain_1, expB, Bool.and_eq_true, decide_eq_true_eq] at h
  obtain ⟨hs, h6, hsh⟩ := h
  have hG := exp_good hs hsh h6
  have hsr := (numB_iff s).1 hs
  have hT := (thrS_at hG (1 + d.length) (Nat.le_refl _)).1
  have hN := thrS_nums ((0, s) :: d) (1 + d.length) (1 + d.length)
  have hL := thrS_len ((0, s) :: d) (1 + d.length) (1 + d.length) (Nat.le_refl _)
  have hx : 1 ≤ px d i ∧ px d i ≤ 7 := by
    simp only [shB, Bool.and_eq_true] at hsh
    exact xsK_at hsh.2 hi
  refine ⟨hx, ?_⟩
  have h0 : (thrS ((0, s) :: d) (1 + d.length) (1 + d.length)).getD 0 0 = s := by
    have := hT 0 (by omega)
    rw [show px ((0, s) :: d) 0 = 0 from rfl, show py ((0, s) :: d) 0 = s from rfl] at this
    have hz : sv (thrS ((0, s) :: d) (1 + d.length) (1 + d.length)) 0 = (thrS ((0, s) :: d) (1 + d.length) (1 + d.length)).getD 0 0 := by
      cases thrS ((0, s) :: d) (1 + d.length) (1 + d.length) with
      | nil => rfl
      | cons a l => simp [sv]
    rw [hz] at this
    have := hN 0
    omega
  have he : ∀ j, (s :: expL s d).getD j 0 = (thrS ((0, s) :: d) (1 + d.length) (1 + d.length)).getD j 0 := fun j => by
    cases j with
    | zero => rw [h0]; rfl
    | succ j =>
      by_cases hj : j < d.length
      · rw [← expL_get s d j hj]; rfl
      · rw [show (s :: expL s d).getD (j + 1) 0 = (expL s d).getD j 0 from rfl]
        rw [List.getD_eq_getElem?_getD, List.getD_eq_getElem?_getD, List.getElem?_eq_none (by rw [expL_length]; omega), List.getElem?_eq_none (by omega)]
  have hp := hT (i + 1) (by omega)
  rw [show px ((0, s) :: d) (i + 1) = px d i by simp [px], show py ((0, s) :: d) (i + 1) = py d i by simp [py]] at hp
  rw [atI_sv, sv_ext _ _ he, hp]
theorem expl_nums {s : Int} {d : List (Int × Int)} (h : R_SharesExplain_1 s d = true) : R_SharesOf_1 s 7 (expL s d) = true ∧ d.length ≤ 6 := by
  simp only [R_SharesExplain_1, expB, Bool.and_eq_true, decide_eq_true_eq] at h
  obtain ⟨hs, h6, hsh⟩ := h
  have hN := thrS_nums ((0, s) :: d) (1 + d.length) (1 + d.length)
  refine ⟨?_, h6⟩
  unfold R_SharesOf_1 ofB
  rw [hs, inB_t ⟨by omega, by omega⟩, expL_length, decide_eq_true (by omega)]
  have : numsB (expL s d) = true := by
    unfold numsB
    rw [List.all_eq_true]
    intro z hz
    simp only [expL, List.mem_map, List.mem_range] at hz
    obtain ⟨j, _, rfl⟩ := hz
    exact (numB_iff _).2 (hN (j + 1))
  rw [this]; rfl

set_option maxHeartbeats 1000000 in
theorem u_uvInts (A A' : Option Addr) (n c c' : Nat) (d : List Int) (w : World) (h : Rd w w.heap.size 1 A n (cI d)) (h' : Rd w w.heap.size 1 A' n (cI d)) (hn : n ≤ 1048576) :
    Calls Try.prog 10 #[.slice A n c, .slice A' n c'] w fun e w' => e = .returned (.bool true) ∧ Below w.heap.size w w' := by
  have H := Lib.hid h
  have H' := Lib.hid h'
  clear h h'
  go_enter Try.func10, Try.ntmps10
  go_wp2
  go_loopw [5] (fun i wr => ∃ k m : Nat, k ≤ n ∧ i = .int .i64 k ∧ wr = w.drewN m) (fun i _ => n - (intOf i).toNat)
  case atStart => exact ⟨0, 0, Nat.zero_le _, rfl, rfl⟩
  case round =>
    obtain ⟨k, m, hk, rfl, rfl⟩ := hrel
    by_cases hlt : k < n
    · obtain ⟨a, x, rfl, hab, hx, HP⟩ := H.out.intAt hlt
      obtain ⟨a', x', rfl, hab', hx', HP'⟩ := H'.out.intAt hlt
      obtain rfl : x' = x := by rw [HP.out, HP'.out]
      have i0 : (0 : Int) ≤ (k : Int) := by omega
      have i1 : (k : Int) < (n : Int) := by omega
      clear HP HP'
      go_wp2
      go_quiet (fail)
      go_wp2
      go_roundw
      case rel => exact ⟨k + 1, _, by omega, by go_num, rfl⟩
      case measure => simp [intOf] <;> omega
    · go_wp2
      go_ret
      exact ⟨rfl, below_drewN (Below.refl _ _) _⟩
end Go.Proofs.Ytpaaimmakkfbkaa

/- P29: who sees fewer shares than the bound sees what another secret would give, too: the mathematics. -/
namespace Go.Proofs.Ytpaaimmakkfbkaa
open Go.RowKit
set_option maxRecDepth 100000

theorem okK_of {ps : List (Int × Int)} {n : Nat} (h : Good ps n) : okK ps n = true := by
  have go : ∀ k, k ≤ n → okK ps k = true := fun k => by
    induction k with
    | zero => intro _; rfl
    | succ k ih =>
      intro hk
      rw [okK_step, ih (by omega), (numB_iff _).2 (h.x0 k (by omega)), (numB_iff _).2 (h.y0 k (by omega))]
      have : seenB ps k (px ps k) = false := by
        apply Bool.eq_false_iff.2
        intro ht
        obtain ⟨i, hi, he⟩ := (seenB_iff ps k _).1 ht
        exact h.ne i k (by omega) (by omega) (by omega) he
      rw [this]; rfl
  exact go n (Nat.le_refl _)
theorem xsK_of {ps : List (Int × Int)} {top : Int} {n : Nat} (h : ∀ i, i < n → 1 ≤ px ps i ∧ px ps i ≤ top) : xsK ps top n = true := by
  have go : ∀ k, k ≤ n → xsK ps top k = true := fun k => by
    induction k with
    | zero => intro _; rfl
    | succ k ih =>
      intro hk
      have := h k (by omega)
      rw [xsK, ih (by omega), decide_eq_true this.1, decide_eq_true this.2]; rfl
  exact go n (Nat.le_refl _)
theorem uptoF_getD (f : Nat → Int × Int) {k i : Nat} (h : i < k) : (uptoF f k).getD i (0, 0) = f i := by simp [uptoF, h]
theorem uptoF_take (f : Nat → Int × Int) {k m : Nat} (h : m ≤ k) : (uptoF f k).take m = uptoF f m := by
  simp [uptoF, ← List.map_take, List.take_range, Nat.min_eq_left h]
theorem upto_px (cs : List Int) {k i : Nat} (h : i < k) : px (uptoF (shF cs) k) i = (i : Int) + 1 := by unfold px; rw [uptoF_getD _ h]; rfl
theorem upto_py (cs : List Int) {k i : Nat} (h : i < k) : py (uptoF (shF cs) k) i = atI cs ((i : Int) + 1) := by unfold py; rw [uptoF_getD _ h]; rfl
theorem upto_good (cs : List Int) {k : Nat} (h : k ≤ 7) : Good (uptoF (shF cs) k) k where
  x0 i hi := by rw [upto_px cs hi]; omega
  y0 i hi := by rw [upto_py cs hi]; exact ⟨atI_lo _ _, atI_hi _ _⟩
  ne i j hi hj hne := by rw [upto_px cs hi, upto_px cs hj]; omega
theorem upto_sh (cs : List Int) {k : Nat} (h : k ≤ 7) : shB (uptoF (shF cs) k) 7 = true := by
  unfold shB ptsB
  rw [uptoF_length, okK_of (upto_good cs h), xsK_of (fun i hi => by rw [upto_px cs hi]; omega), decide_eq_true (show k ≤ 20 by omega)]; rfl
theorem nums_consE {s : Int} {t : List Int} (hs : numB s = true) (ht : Nums t) : Nums (s :: t) := nums_cons ((numB_iff s).1 hs) ht
theorem numsB_nums {t : List Int} (h : numsB t = true) : Nums t := fun j => by
  by_cases hj : j < t.length
  · have := List.all_eq_true.1 h t[j] (List.getElem_mem hj)
    rw [getD_of t j hj]; exact (numB_iff _).1 this
  · rw [getD_out t j (by omega)]; omega
theorem ofB_parts {s N : Int} {t : List Int} (h : ofB s N t = true) : numB s = true ∧ Nums t ∧ (1 ≤ N ∧ N ≤ 7) ∧ (t.length : Int) < N := by
  simp only [ofB, Bool.and_eq_true, decide_eq_true_eq, inB] at h
  exact ⟨h.1, numsB_nums h.2.1, h.2.2.1, h.2.2.2⟩
theorem back_ok {s N : Int} {t : List Int} (h : ofB s N t = true) : R_SharesExplain_1 s (uptoF (shF (s :: t)) t.length) = true := by
  obtain ⟨h1, h2, h3, h4⟩ := ofB_parts h
  unfold R_SharesExplain_1 expB
  rw [h1, uptoF_length, decide_eq_true (show t.length ≤ 6 by omega), upto_sh _ (by omega)]; rfl
/-- the tape comes back -/
theorem back_is {s N : Int} {t : List Int} (h : ofB s N t = true) : R_SharesExplain_0 s (uptoF (shF (s :: t)) t.length) = t := by
  have hb := back_ok h
  obtain ⟨h1, h2, h3, h4⟩ := ofB_parts h
  have ha := fun i hi => (expl_at hb i hi).2
  rw [uptoF_length] at ha
  unfold R_SharesExplain_0
  rw [if_pos (show expB s (uptoF (shF (s :: t)) t.length) = true from hb)]
  have hen := expl_nums hb
  obtain ⟨_, hn, _, _⟩ := ofB_parts (show ofB s 7 _ = true from hen.1)
  have hl : (expL s (uptoF (shF (s :: t)) t.length)).length = t.length := by rw [expL_length, uptoF_length]
  generalize expL s (uptoF (shF (s :: t)) t.length) = u at *
  have hj := one_through ((List.range (t.length + 1)).map fun i : Nat => (i : Int)) (s :: u) (s :: t) (nums_consE h1 hn) (nums_consE h1 h2) (by simp [hl]) (by simp)
    (List.pairwise_iff_getElem.2 fun i j hi hj hlt => by simp at hi hj ⊢; omega)
    (fun x hx => by
      simp only [List.mem_map, List.mem_range] at hx
      obtain ⟨i, hi, rfl⟩ := hx
      cases i with
      | zero =>
        have e : ∀ l : List Int, atI (s :: l) ((0 : Nat) : Int) = s % 113 := fun l => by rw [atI_sv]; simp [sv]
        rw [e, e]
      | succ i =>
        have := ha i (by omega)
        rw [upto_px _ (by omega), upto_py _ (by omega)] at this
        exact_mod_cast this)
  refine List.ext_getElem hl fun j h5 h6 => ?_
  have := hj (j + 1)
  simpa [List.getD_eq_getElem?_getD, h5, h6] using this
/-- another secret gives the same shares with the tape that is explained -/
theorem other_ok {o N s : Int} {t : List Int} (h : ofB s N t = true) (ho : R_SharesExplain_1 o (uptoF (shF (s :: t)) t.length) = true) :
    ofB o N (expL o (uptoF (shF (s :: t)) t.length)) = true ∧ uptoF (shF (o :: expL o (uptoF (shF (s :: t)) t.length))) t.length = uptoF (shF (s :: t)) t.length := by
  obtain ⟨h1, h2, h3, h4⟩ := ofB_parts h
  constructor
  · have hen := (expl_nums ho).1
    unfold R_SharesOf_1 ofB at hen
    simp only [Bool.and_eq_true, decide_eq_true_eq] at hen
    unfold ofB
    rw [hen.1, hen.2.1, inB_t h3, expL_length, uptoF_length, decide_eq_true h4]; rfl
  · have ha := fun i hi => (expl_at ho i hi).2
    rw [uptoF_length] at ha
    generalize expL o (uptoF (shF (s :: t)) t.length) = u at *
    refine List.ext_getElem (by simp [uptoF_length]) fun i h5 h6 => ?_
    have hi : i < t.length := by simpa [uptoF_length] using h5
    have ha := ha i hi
    rw [upto_px _ hi, upto_py _ hi] at ha
    simp only [uptoF, List.getElem_map, List.getElem_range, shF]
    rw [ha]
end Go.Proofs.Ytpaaimmakkfbkaa

/- P29, P33: what SharesOf is asked; points and numbers compared, quietly; a list of points cut. -/
namespace Go.Proofs.Ytpaaimmakkfbkaa
open Go.RowKit
set_option maxRecDepth 100000

theorem quiet_ex {P : Program} {f : FuncId} {args : Array Value} {w : World} {a : Nat} {v : Value} (h : Calls P f args (w.drewN a) fun e w' => e = .returned v ∧ ∃ m, w' = (w.drewN a).drewN m) : Calls P f args (w.drewN a) fun e w'' => e = .returned v ∧ ∃ m, w'' = w.drewN m :=
  h.mono fun _ _ ⟨he, m, hm⟩ => ⟨he, a + m, by rw [hm, World.drewN_drewN]⟩
theorem Rd.headP {w : World} {hi n k : Nat} {A : Option Addr} {ps : List (Int × Int)} (h : Rd w hi 2 A n (cP ps)) (hk : k ≤ n) : Rd w hi 2 A k (cP (ps.take k)) := by
  have hl := h.plen
  refine ⟨by rw [cP_length, List.length_take]; omega, fun h0 => ?_⟩
  obtain ⟨a, e, hb, hc⟩ := h.2 (by omega)
  refine ⟨a, e, hb, fun j u hj => hc j u ?_⟩
  rw [← hj, show ps = ps.take k ++ ps.drop k from (List.take_append_drop k ps).symm, cP_append]
  have hjk : j < (cP (ps.take k)).length := by
    have := (List.getElem?_eq_some_iff.1 hj).1
    simpa using this
  rw [List.getElem?_append_left hjk]
  simp
set_option maxHeartbeats 1000000 in
theorem d_DrawSharesOf (A : Option Addr) (n c : Nat) (bs : List Int) (w : World) (h : Rd w w.heap.size 1 A n (cU bs)) (hb : Byt bs) (hn : n ≤ 1048576) (hc : n ≤ c) :
    Calls Try.prog 4 #[.slice A n c] w fun e w' => ∃ s N v d, e = .returned (.tuple #[.int .i64 s, .int .i64 N, v]) ∧ (-1 ≤ N ∧ N ≤ 8) ∧ OwIntS w' w.heap.size w'.heap.size v d ∧ d.length ≤ 6 ∧ Below w.heap.size w w' := by
  have H := Lib.hid h
  clear h
  go_enter Try.func4, Try.ntmps4
  go_wp2_with fail
  refine (d_l6Open _ _ _ _ _ H.out hb hn hc).mono ?_
  rintro e w1 ⟨rfl, ⟨A', n', c', bs', h1⟩, hb1⟩
  have H1 := Lib.hid h1
  have B1 := Lib.hid hb1
  clear h1 hb1
  go_wp2_with fail
  refine (d_l91SharesOf _ _ _ _ _ _ _ _ H1.out (by omega)).mono ?_
  rintro e w2 ⟨s, N, v, d, q, rfl, hs, hN, ho, hd, hq, h2, k2⟩
  have B2 : Hid (Below w.heap.size w w2) := Lib.hid (B1.out.trans (k2.to_below B1.out.size))
  have HO : Hid (OwIntS w2 w.heap.size w2.heap.size v d) := Lib.hid (ho.widen B1.out.size (Nat.le_refl _))
  clear h2 k2 ho
  go_wp2
  go_ret3
  exact ⟨_, _, _, _, rfl, hN, HO.out, hd, B2.out⟩
set_option maxHeartbeats 1000000 in
theorem u_uvPoints (A A' : Option Addr) (n c c' : Nat) (d : List (Int × Int)) (w : World) (h : Rd w w.heap.size 2 A n (cP d)) (h' : Rd w w.heap.size 2 A' n (cP d)) (hn : n ≤ 1048576) :
    Calls Try.prog 7 #[.slice A n c, .slice A' n c'] w fun e w' => e = .returned (.bool true) ∧ ∃ m, w' = w.drewN m := by
  have H := Lib.hid h
  have H' := Lib.hid h'
  clear h h'
  go_enter Try.func7, Try.ntmps7
  go_wp2
  go_loopw [5] (fun i wr => ∃ k m : Nat, k ≤ n ∧ i = .int .i64 k ∧ wr = w.drewN m) (fun i _ => n - (intOf i).toNat)
  case atStart => exact ⟨0, 0, Nat.zero_le _, rfl, rfl⟩
  case round =>
    obtain ⟨k, m, hk, rfl, rfl⟩ := hrel
    by_cases hlt : k < n
    · obtain ⟨a, x, y, rfl, hab, hx, hy, HP⟩ := H.out.ptAt hlt
      obtain ⟨a', x', y', rfl, hab', hx', hy', HP'⟩ := H'.out.ptAt hlt
      obtain ⟨rfl, rfl⟩ : x' = x ∧ y' = y := by have := HP.out.symm.trans HP'.out; injection this with p1 p2; exact ⟨p1.symm, p2.symm⟩
      have i0 : (0 : Int) ≤ (k : Int) := by omega
      have i1 : (k : Int) < (n : Int) := by omega
      clear HP HP'
      go_wp2
      go_quiet (fail)
      go_wp2
      go_roundw
      case rel => exact ⟨k + 1, _, by omega, by go_num, rfl⟩
      case measure => simp [intOf] <;> omega
    · go_wp2
      go_ret
      exact ⟨rfl, _, rfl⟩
set_option maxHeartbeats 1000000 in
theorem u_uvIntsQ (A A' : Option Addr) (n c c' : Nat) (d : List Int) (w : World) (h : Rd w w.heap.size 1 A n (cI d)) (h' : Rd w w.heap.size 1 A' n (cI d)) (hn : n ≤ 1048576) :
    Calls Try.prog 10 #[.slice A n c, .slice A' n c'] w fun e w' => e = .returned (.bool true) ∧ ∃ m, w' = w.drewN m := by
  have H := Lib.hid h
  have H' := Lib.hid h'
  clear h h'
  go_enter Try.func10, Try.ntmps10
  go_wp2
  go_loopw [5] (fun i wr => ∃ k m : Nat, k ≤ n ∧ i = .int .i64 k ∧ wr = w.drewN m) (fun i _ => n - (intOf i).toNat)
  case atStart => exact ⟨0, 0, Nat.zero_le _, rfl, rfl⟩
  case round =>
    obtain ⟨k, m, hk, rfl, rfl⟩ := hrel
    by_cases hlt : k < n
    · obtain ⟨a, x, rfl, hab, hx, HP⟩ := H.out.intAt hlt
      obtain ⟨a', x', rfl, hab', hx', HP'⟩ := H'.out.intAt hlt
      obtain rfl : x' = x := by rw [HP.out, HP'.out]
      have i0 : (0 : Int) ≤ (k : Int) := by omega
      have i1 : (k : Int) < (n : Int) := by omega
      clear HP HP'
      go_wp2
      go_quiet (fail)
      go_wp2
      go_roundw
      case rel => exact ⟨k + 1, _, by omega, by go_num, rfl⟩
      case measure => simp [intOf] <;> omega
    · go_wp2
      go_ret
      exact ⟨rfl, _, rfl⟩
end Go.Proofs.Ytpaaimmakkfbkaa

/- Lists of truths as whole values: cells, the laws' own helpers, what a law hands from call to call. -/
namespace Go.Proofs.Ytpaaimmakkfbkaa
open Go.RowKit
set_option maxRecDepth 100000

/-- truths as cells -/
def cB (xs : List Bool) : List Value := xs.map Value.bool
theorem cB_length (xs : List Bool) : (cB xs).length = xs.length := by simp [cB]
theorem cB_get (xs : List Bool) (j : Nat) (h : j < xs.length) : (cB xs)[j]? = some (.bool (xs.getD j false)) := by
  simp [cB, h]
theorem cB_set (zs : List Bool) (j : Nat) (v : Bool) : (cB zs).set j (.bool v) = cB (zs.set j v) := by simp [cB, List.map_set]
theorem cB_zeros (n : Nat) : List.replicate n (Value.bool false) = cB (List.replicate n false) := by simp [cB]
theorem cB_one (zs : List Bool) : ∀ u ∈ cB zs, u.oneCell' = true := by
  intro u hu
  obtain ⟨b, _, rfl⟩ := List.mem_map.1 hu
  rfl
section
variable {w w' : World} {lo hi lo' hi' e n c : Nat} {A : Option Addr} {zs : List Bool}
theorem Rd.blen (h : Rd w hi 1 A n (cB zs)) : zs.length = n := by have := h.1; rw [cB_length] at this; omega
theorem Ow.blen (h : Ow w lo hi e 1 A n c (cB zs)) : zs.length = n := by have := h.1; rw [cB_length] at this; omega
theorem Rd.boolAt (h : Rd w hi 1 A n (cB zs)) {k : Nat} (hk : k < n) : ∃ (a : Addr) (z : Bool), A = some a ∧ a.block < hi ∧ w.cell? (a.add k) = some (.bool z) ∧ Hid (z = zs.getD k false) := by
  obtain ⟨a, e, hb, hc⟩ := h.2 (by omega)
  exact ⟨a, _, e, hb, hc k _ (cB_get zs k (by have := h.blen; omega)), Lib.hid rfl⟩
theorem Ow.boolAt {a : Option Nat} {g k : Nat} (h : Ow w lo hi e 1 (some ⟨g, 0, a⟩) n c (cB zs)) (hk : k < n) : ∃ z : Bool, w.cell? ⟨g, k, none⟩ = some (.bool z) ∧ Hid (z = zs.getD k false) :=
  ⟨_, h.cellAt (cB_get zs k (by have := h.blen; omega)), Lib.hid rfl⟩
end
theorem ret_vvb2 {g k : Value} {a b : Bool} (h : a = b) : Ending.returned (.tuple #[g, k, .bool a]) = .returned (.tuple #[g, k, .bool b]) := by rw [h]
theorem info_bool : (Try.prog.info? 4).map (fun i => (i.zero, i.size, i.bytes)) = some (some (.bool false), 1, 1) := by kernel_rfl
theorem copyB_step {zs : List Bool} {n k : Nat} (hz : zs.length = n) (hk : k < n) : (zs.take k ++ List.replicate (n - k) false).set k (zs.getD k false) = zs.take (k + 1) ++ List.replicate (n - (k + 1)) false := by
  have hl : (zs.take k).length = k := by simp; omega
  rw [List.set_append_right _ _ (by omega), hl, Nat.sub_self, show n - k = (n - (k + 1)) + 1 by omega, List.replicate_succ]
  have hk' : k < zs.length := by omega
  rw [List.set_cons_zero, List.take_succ_eq_append_getElem hk', List.append_assoc, List.singleton_append]
  simp [hk']

/-- the marks: whether K, K + 1, .. are thrice something -/
def iotaB (K : Int) (n : Nat) : List Bool := (List.range n).map fun i : Nat => (K + (i : Int)) % 3 == 0
theorem iotaB_length (K : Int) (n : Nat) : (iotaB K n).length = n := by simp [iotaB]
theorem iotaB_get (K : Int) (n j : Nat) (h : j < n) : (iotaB K n).getD j false = ((K + j) % 3 == 0) := by simp [iotaB, h]
theorem iotaB_succ (K : Int) (n : Nat) : iotaB K (n + 1) = iotaB K n ++ [(K + n) % 3 == 0] := by simp [iotaB, List.range_succ]
theorem markB_step {zs : List Bool} {n k : Nat} (K : Int) (hz : zs.length = n) (hk : k < n) : (iotaB K k ++ zs.drop k).set k ((K + k) % 3 == 0) = iotaB K (k + 1) ++ zs.drop (k + 1) := by
  have hl := iotaB_length K k
  have hk' : k < zs.length := by omega
  rw [List.set_append_right _ _ (by omega), hl, Nat.sub_self, iotaB_succ, List.append_assoc, List.drop_eq_getElem_cons hk', List.set_cons_zero, List.singleton_append]

/-- v reads as the list d, below block hi -/
def RdBoolS (w : World) (hi : Nat) (v : Value) (d : List Bool) : Prop := ∃ A n c, v = .slice A n c ∧ n ≤ 9223372036854775807 ∧ Rd w hi 1 A n (cB d)
/-- v is the list d in a block of its own between lo and hi -/
def OwBoolS (w : World) (lo hi : Nat) (v : Value) (d : List Bool) : Prop := d.length ≤ 1048576 ∧ ∃ A n c, v = .slice A n c ∧ Ow w lo hi 4 1 A n c (cB d)
def szBoolS (d : List Bool) : Nat := d.length
def mkBoolS (K : Int) (d : List Bool) : List Bool := iotaB K d.length
section
variable {w w' : World} {lo hi lo' hi' B mid : Nat} {v : Value} {d : List Bool}
theorem RdBoolS.below (h : RdBoolS w hi v d) (hb : Below hi w w') : RdBoolS w' hi v d := by
  obtain ⟨A, n, c, rfl, hn, r⟩ := h; exact ⟨A, n, c, rfl, hn, r.below hb⟩
theorem RdBoolS.more (h : RdBoolS w hi v d) (hh : hi ≤ hi') : RdBoolS w hi' v d := by
  obtain ⟨A, n, c, rfl, hn, r⟩ := h; exact ⟨A, n, c, rfl, hn, r.more hh⟩
theorem OwBoolS.small (h : OwBoolS w lo hi v d) : szBoolS d ≤ 1048576 := h.1
theorem OwBoolS.rd (h : OwBoolS w lo hi v d) : RdBoolS w hi v d := by
  obtain ⟨hs, A, n, c, rfl, r⟩ := h
  exact ⟨A, n, c, rfl, by have := r.blen; omega, r.rd⟩
theorem OwBoolS.below (h : OwBoolS w lo hi v d) (hb : Below B w w') (hz : hi ≤ B) : OwBoolS w' lo hi v d := by
  obtain ⟨hs, A, n, c, rfl, r⟩ := h; exact ⟨hs, A, n, c, rfl, r.below hb hz⟩
theorem OwBoolS.kept (h : OwBoolS w lo hi v d) (hk : Kept lo' mid w w') (hz : hi ≤ w.heap.size) (hd : mid ≤ lo ∨ hi ≤ lo') : OwBoolS w' lo hi v d := by
  obtain ⟨hs, A, n, c, rfl, r⟩ := h; exact ⟨hs, A, n, c, rfl, r.kept hk hz hd⟩
theorem OwBoolS.widen (h : OwBoolS w lo hi v d) (h1 : lo' ≤ lo) (h2 : hi ≤ hi') : OwBoolS w lo' hi' v d := by
  obtain ⟨hs, A, n, c, rfl, r⟩ := h; exact ⟨hs, A, n, c, rfl, r.widen h1 h2⟩
end
/-- a nil slice -/
theorem OwBoolS.nil_ (w : World) (lo hi : Nat) : OwBoolS w lo hi (.slice none 0 0) [] := ⟨by simp, none, 0, 0, rfl, by simp [cB], Nat.le_refl _, .inl rfl⟩

end Go.Proofs.Ytpaaimmakkfbkaa

/- Whether an index lies in a list's length. -/
namespace Go.Proofs.Ytpaaimmakkfbkaa
open Go.RowKit
end Go.Proofs.Ytpaaimmakkfbkaa

/- Chapter 12: look-ups, the mathematics of both sides. No word of a program. -/
namespace Go.Proofs.Ytpaaimmakkfbkaa
open Go.RowKit
set_option maxRecDepth 100000

def tabB (t : List Int) : Bool := inB t.length 1 16 && numsB t
def pairB (s : List Bool) (i : Int) : Bool := inB s.length 1 16 && inB i 0 (s.length - 1)
def R_PairAsk_2 (s : List Bool) (i : Int) : Bool := pairB s i
def R_PairAsk_0 (s : List Bool) (i : Int) : List Bool := if pairB s i = true then s else []
def R_PairAsk_1 (s : List Bool) (i : Int) : List Bool := if pairB s i = true then s.set i.toNat (!s.getD i.toNat false) else []
/-- the sum of the first k entries in a set -/
def setK (t : List Int) (s : List Bool) : Nat → Int
  | 0 => 0
  | k + 1 => if s.getD k false = true then (setK t s k + t.getD k 0) % 113 else setK t s k
def answB (t : List Int) (s : List Bool) : Bool := tabB t && decide (s.length = t.length)
def answV (t : List Int) (s : List Bool) : Int := if answB t s = true then setK t s t.length else 0
def ptakeB (s : List Bool) (a b i : Int) : Bool := pairB s i && (numB a && numB b)
def ptakeV (s : List Bool) (a b i : Int) : Int := if ptakeB s a b i = true then (if s.getD i.toNat false = true then (a - b) % 113 else (b - a) % 113) else 0
def maskB (i n : Int) (t : List Int) : Bool := inB i 0 15 && (inB n 1 20 && (decide (t.length ≤ 7) && numsB t))
/-- the values of a polynomial at 1, 2, .. -/
def vals (cs : List Int) (n : Nat) : List Int := (List.range n).map fun k : Nat => atI cs ((k : Int) + 1)
def R_ManyAsk_1 (i n : Int) (t : List Int) : Bool := maskB i n t
def R_ManyAsk_0 (i n : Int) (t : List Int) : List Int := if maskB i n t = true then vals (i :: t) n.toNat else []
/-- numbers as points, from a first number on -/
def ptsOf (f : Nat) (t : List Int) : List (Int × Int) := (List.range t.length).map fun i => (((f + i : Nat) : Int), t.getD i 0)
def mansB (t : List Int) (p : Int) : Bool := tabB t && numB p
def mansV (t : List Int) (p : Int) : Int := if mansB t p = true then atI (thrS (ptsOf 0 t) t.length t.length) p else 0
def mtakB (a : List Int) : Bool := inB a.length 1 20 && numsB a
def mtakV (a : List Int) : Int := if mtakB a = true then atI (thrS (ptsOf 1 a) a.length a.length) 0 else 0
def mexpB (i : Int) (d : List (Int × Int)) : Bool := inB i 0 15 && (decide (d.length ≤ 7) && shB d 112)
def R_ManyExplain_1 (i : Int) (d : List (Int × Int)) : Bool := mexpB i d
def R_ManyExplain_0 (i : Int) (d : List (Int × Int)) : List Int := if mexpB i d = true then expL i d else []

theorem setK_bd (t : List Int) (s : List Bool) (k : Nat) : 0 ≤ setK t s k ∧ setK t s k ≤ 112 := by
  induction k with
  | zero => exact ⟨by simp [setK], by simp [setK]⟩
  | succ k ih => unfold setK; split <;> omega
theorem vals_succ (cs : List Int) (n : Nat) : vals cs (n + 1) = vals cs n ++ [atI cs ((n : Int) + 1)] := by simp [vals, List.range_succ]
theorem vals_length (cs : List Int) (n : Nat) : (vals cs n).length = n := by simp [vals]
theorem vals_get (cs : List Int) (n k : Nat) (h : k < n) : (vals cs n).getD k 0 = atI cs ((k : Int) + 1) := by simp [vals, h]
theorem ptsOf_length (f : Nat) (t : List Int) : (ptsOf f t).length = t.length := by simp [ptsOf]
theorem px_ptsOf (f : Nat) (t : List Int) (i : Nat) (h : i < t.length) : px (ptsOf f t) i = ((f + i : Nat) : Int) := by simp [px, ptsOf, h]
theorem py_ptsOf (f : Nat) (t : List Int) (i : Nat) (h : i < t.length) : py (ptsOf f t) i = t.getD i 0 := by simp [py, ptsOf, h]
theorem ptsOf_good (f : Nat) (t : List Int) (hf : f + t.length ≤ 113) (ht : Nums t) : Good (ptsOf f t) t.length :=
  ⟨fun i hi => by rw [px_ptsOf f t i hi]; omega, fun i hi => by rw [py_ptsOf f t i hi]; exact ht i, fun i j hi hj hij => by rw [px_ptsOf f t i hi, px_ptsOf f t j hj]; omega⟩
/-- the first k of them -/
def ptsU (f : Nat) (t : List Int) (k : Nat) : List (Int × Int) := (List.range k).map fun i => (((f + i : Nat) : Int), t.getD i 0)
theorem ptsU_len (f : Nat) (t : List Int) : ptsU f t t.length = ptsOf f t := rfl
theorem ptsU_succ {f k : Nat} {t : List Int} {p x : Int} (hp : p = ((f + k : Nat) : Int)) (hx : x = t.getD k 0) : ptsU f t (k + 1) = ptsU f t k ++ [(p, x)] := by
  subst hp; subst hx; simp [ptsU, List.range_succ]
theorem uptoF_getD2 (f : Nat → Int × Int) {k i : Nat} (h : i < k) : (uptoF f k).getD i (0, 0) = f i := by simp [uptoF, h]
theorem uptoF_ptsOf (f : Nat) (t : List Int) : uptoF (fun i => (((f + i : Nat) : Int), t.getD i 0)) t.length = ptsOf f t := rfl
theorem okK_of2 {ps : List (Int × Int)} {n : Nat} (h : Good ps n) : okK ps n = true := by
  have go : ∀ k, k ≤ n → okK ps k = true := fun k => by
    induction k with
    | zero => intro _; rfl
    | succ k ih =>
      intro hk
      rw [okK_step, ih (by omega), (numB_iff _).2 (h.x0 k (by omega)), (numB_iff _).2 (h.y0 k (by omega))]
      have : seenB ps k (px ps k) = false := by
        apply Bool.eq_false_iff.2
        intro ht
        obtain ⟨i, hi, he⟩ := (seenB_iff ps k _).1 ht
        exact h.ne i k (by omega) (by omega) (by omega) he
      rw [this]; rfl
  exact go n (Nat.le_refl _)
theorem okK_nums {ps : List (Int × Int)} {n : Nat} (h : okK ps n = true) : ∀ i, i < n → 0 ≤ py ps i ∧ py ps i ≤ 112 := fun i hi => (Good.of h).y0 i hi
/-- what ManyTake asks is what SharesJoin asks of these points -/
theorem join_ptsOf (a : List Int) (h20 : a.length ≤ 20) : joinB (ptsOf 1 a) = mtakB a := by
  unfold joinB mtakB shB ptsB
  rw [ptsOf_length]
  cases hn : numsB a
  · rw [Bool.and_false]
    have : okK (ptsOf 1 a) a.length = false := by
      apply Bool.eq_false_iff.2
      intro h
      have hN : Nums a := fun i => by
        by_cases hi : i < a.length
        · have := okK_nums h i hi
          rwa [py_ptsOf 1 a i hi] at this
        · rw [List.getD_eq_getElem?_getD, List.getElem?_eq_none (by omega)]; simp
      rw [B_of_nums hN] at hn; cases hn
    rw [this]; simp
  · have hg := okK_of2 (ptsOf_good 1 a (by omega) (nums_of_B hn))
    have hx : ∀ k, k ≤ a.length → xsK (ptsOf 1 a) 112 k = true := by
      intro k hk
      induction k with
      | zero => rfl
      | succ k ih => rw [xsK, ih (by omega), px_ptsOf 1 a k (by omega)]; simp; omega
    rw [hg, hx _ (Nat.le_refl _)]
    unfold inB
    rw [decide_eq_true h20, show decide ((a.length : Int) ≤ 20) = true from decide_eq_true (by omega)]
    by_cases h0 : 0 < a.length
    · rw [decide_eq_true h0, show decide ((1 : Int) ≤ (a.length : Int)) = true from decide_eq_true (by omega)]; rfl
    · rw [decide_eq_false h0, show decide ((1 : Int) ≤ (a.length : Int)) = false from decide_eq_false (by omega)]; rfl
theorem exp_good2 {s top : Int} {d : List (Int × Int)} (hs : 0 ≤ s ∧ s ≤ 112) (h : shB d top = true) : Good ((0, s) :: d) (1 + d.length) := by
  simp only [shB, Bool.and_eq_true] at h
  have hg := (shB_good rfl h.1).1
  have hx := fun i (hi : i < d.length) => xsK_at h.2 hi
  have p0 : px ((0, s) :: d) 0 = 0 := rfl
  have q0 : py ((0, s) :: d) 0 = s := rfl
  have p1 : ∀ i, px ((0, s) :: d) (i + 1) = px d i := fun i => by simp [px]
  have q1 : ∀ i, py ((0, s) :: d) (i + 1) = py d i := fun i => by simp [py]
  refine ⟨fun i hi => ?_, fun i hi => ?_, fun i j hi hj hij => ?_⟩
  · cases i with
    | zero => rw [p0]; omega
    | succ i => rw [p1]; exact hg.x0 i (by omega)
  · cases i with
    | zero => rw [q0]; exact hs
    | succ i => rw [q1]; exact hg.y0 i (by omega)
  · cases i with
    | zero =>
      cases j with
      | zero => exact absurd rfl hij
      | succ j => rw [p0, p1]; have := hx j (by omega); omega
    | succ i =>
      cases j with
      | zero => rw [p0, p1]; have := hx i (by omega); omega
      | succ j => rw [p1, p1]; exact hg.ne i j (by omega) (by omega) (by omega)
end Go.Proofs.Ytpaaimmakkfbkaa

/- Chapter 12: ManyExplain of both sides; the program's 'explained', which chapter 4 calls, too. Made by tools/gen12/explain.py. -/
namespace Go.Proofs.Ytpaaimmakkfbkaa
open Go.RowKit
set_option maxHeartbeats 2000000 in
theorem i_explained (A : Option Addr) (n c : Nat) (s : Int) (d : List (Int × Int)) (w : World) (h : Rd w w.heap.size 2 A n (cP d)) (hn : n ≤ 7) (hg : Good ((0, s) :: d) (1 + n)) :
    Calls Try.prog 23 #[.int .i64 s, .slice A n c] w fun e w' => ∃ g, e = .returned g ∧ OwIntT w' w.heap.size w'.heap.size g (expL s d) ∧ Below w.heap.size w w' := by
  have hl := Lib.hid h.plen
  have H := Lib.hid h
  have HG := Lib.hid hg
  clear h hg
  have HQL : Hid (((0, s) :: d).length = 1 + n) := Lib.hid (by rw [List.length_cons, hl.out]; omega)
  have HTO : Hid ((thrI ((0, s) :: d) (1 + n)).1 = thrS ((0, s) :: d) (1 + n) (1 + n)) := Lib.hid (by have := through_one (ps := (0, s) :: d) (by rw [HQL.out]; exact HG.out); rwa [HQL.out] at this)
  go_enter Try.func23, Try.ntmps23
  have HLIT := Lib.hid (lit_point w s)
  have HRD : Hid (Rd (w.alloc (.cells #[.int .i64 0, .int .i64 s] 46)) (w.alloc (.cells #[.int .i64 0, .int .i64 s] 46)).heap.size 2 A n (cP d)) := Lib.hid ((H.out.below ((Below.refl _ _).alloc (Nat.le_refl _) _)).more (by simp))
  have hza : w.heap.size ≤ (w.alloc (.cells #[.int .i64 0, .int .i64 s] 46)).heap.size := by simp
  go_wp2_with (at_builtin
               refine wpList_append_rd rfl (.tmp 8) (.tmp 9) _ rfl w.heap.size 46 _ 2 16 Try.underlying26 info_pt rfl (by decide) (.slice (some ⟨w.heap.size, 0, none⟩) 1 1) 1 [.int .i64 0, .int .i64 s] rfl HLIT.out _ A n c (cP d) rfl HRD.out (cP_one d) (by unfold maxLen; omega) (by omega) hza ?_
               intro v5 w5 hown hgr hat
               obtain ⟨A5, c5, hv5, ho5⟩ := Ow.of_own hown
               subst hv5
               have HO5 : Hid (Ow w5 w.heap.size w5.heap.size 46 2 A5 (1 + n) c5 (cP ((0, s) :: d))) := Lib.hid ho5
               have HB5 : Hid (Below w.heap.size w w5) := Lib.hid (below_grown ((Below.refl _ _).alloc (Nat.le_refl _) _) hgr (fun g e => by simp [Value.ownBlock] at e; omega) hza)
               clear hown hgr hat ho5)
  refine (i_through A5 (1 + n) c5 ((0, s) :: d) w5 HO5.out.rd (by omega) HG.out).mono ?_
  rintro e w6 ⟨g6, rfl, ho6, hb6⟩
  rw [HTO.out] at ho6
  obtain ⟨hsm, At, nt, ct, rfl, hot⟩ := ho6
  have HOT := Lib.hid hot.rd
  have hz5 := HB5.out.size
  have HB6 : Hid (Below w.heap.size w w6) := Lib.hid (HB5.out.trans (hb6.mono (by omega)))
  have hnt : nt ≤ n + 1 := by have := thrS_len ((0, s) :: d) (1 + n) _ (Nat.le_refl _); rw [hot.len] at this; omega
  have HPL : Hid ((thrS ((0, s) :: d) (1 + n) (1 + n)).length ≤ n + 1) := Lib.hid (by rw [hot.len]; exact hnt)
  have hz6 := HB6.out.size
  clear hot hb6 hsm HLIT HRD hza HO5 HB5 HTO
  go_wp2_with fail
  refine (i_padded At nt ct (n + 1) _ w6 HOT.out hnt (by omega)).mono ?_
  rintro e w7 ⟨rfl, hop, hb7, hz7⟩
  have HB7 : Hid (Below w.heap.size w w7) := Lib.hid (HB6.out.trans (hb7.mono hz6))
  have HPO : Hid (OwT w7 w.heap.size w7.heap.size (some ⟨w6.heap.size, 1, none⟩) n (cI (expL s d))) := Lib.hid (by
    refine ⟨by rw [cI_length, expL_length, hl.out], ?_⟩
    obtain ⟨g', cs, hA, h1, h2, hb, ht⟩ := hop.lt (by omega)
    injection hA with hA; injection hA with hA; subst hA
    refine .inr ⟨_, 1, cs, rfl, by omega, by omega, hb, ?_⟩
    have hpl : (padL (thrS ((0, s) :: d) (1 + n) (1 + n)) (n + 1)).length = n + 1 := padL_length _ _ HPL.out
    have e1 : (cs.toList.drop 1).take n = ((cs.toList.take ((n + 1) * 1)).drop 1) := by rw [Nat.mul_one, List.drop_take, Nat.add_sub_cancel]
    rw [e1, ht]
    unfold cI
    rw [← List.map_drop]
    congr 1
    refine ext_getD (by rw [List.length_drop, hpl, expL_length, hl.out]; omega) fun j hj => ?_
    rw [List.length_drop, hpl] at hj
    have e2 := expL_get s d j (by rw [hl.out]; omega)
    rw [hl.out] at e2
    have e3 : (thrS ((0, s) :: d) (1 + n) (1 + n)).getD (j + 1) 0 = (padL (thrS ((0, s) :: d) (1 + n) (1 + n)) (n + 1)).getD (j + 1) 0 := (padL_get _ _ _).symm
    rw [e2, e3, List.getD_eq_getElem?_getD, List.getD_eq_getElem?_getD, List.getElem?_drop, Nat.add_comm 1 j])
  clear hop hb7
  by_cases hn0 : n = 0
  · subst hn0
    go_wp2
    go_ret
    exact ⟨_, rfl, ⟨by rw [expL_length, hl.out]; omega, _, _, _, rfl, HPO.out.1, .inl rfl⟩, HB7.out⟩
  · have hne : ¬ n + 1 = 1 := by omega
    go_wp2
    go_ret
    exact ⟨_, rfl, ⟨by rw [expL_length, hl.out]; omega, _, _, _, rfl, HPO.out⟩, HB7.out⟩

set_option maxHeartbeats 2000000 in
theorem X_i_SharesExplain (v : Value) (s : Int) (d : List (Int × Int)) (w : World) (h : RdPointS w w.heap.size v d) (hs : szPointS d ≤ 1048576) :
    Calls Try.prog 9 #[.int .i64 s, v] w fun e w' => ∃ g, e = .returned (.tuple #[g, .bool (R_SharesExplain_1 s d)]) ∧ OwIntT w' w.heap.size w'.heap.size g (R_SharesExplain_0 s d) ∧ Below w.heap.size w w' := by
  obtain ⟨A, n, c, rfl, hm, r⟩ := h
  have hn : n ≤ 1048576 := by have := r.plen; unfold szPointS at hs; omega
  have hl := Lib.hid r.plen
  have H := Lib.hid r
  clear r hs hm
  have no : expB s d = false → Hid (R_SharesExplain_1 s d = false ∧ R_SharesExplain_0 s d = []) := fun h => Lib.hid ⟨h, by unfold R_SharesExplain_0; rw [h]; rfl⟩
  go_enter Try.func9, Try.ntmps9
  go_wp2_with fail
  refine (i_NumOk _ _).mono ?_
  rintro e w1 ⟨rfl, rfl⟩
  cases hs : numB s
  · have HF := no (by simp [expB, hs])
    clear no
    go_wp2
    go_ret2
    refine ⟨_, ret_vb HF.out.1.symm, ?_, Below.refl _ _⟩
    rw [HF.out.2]; exact OwIntT.nil_ _ _ _
  have HS := Lib.hid hs
  clear hs
  by_cases h6 : n ≤ 6
  · have t6 : decide ((6 : Int) < (n : Int)) = false := decide_eq_false (by omega)
    go_wp2_with fail
    refine (i_sharesOk _ _ _ _ _ _ H.out hn).mono ?_
    rintro e w1 ⟨rfl, hb⟩
    have HB := Lib.hid hb
    have hz := hb.size
    clear hb
    cases hp : shB d 7
    · have HF := no (by simp [expB, hp])
      clear no
      go_wp2
      go_ret2
      refine ⟨_, ret_vb HF.out.1.symm, ?_, HB.out⟩
      rw [HF.out.2]; exact OwIntT.nil_ _ _ _
    · have HX : Hid (expB s d = true) := Lib.hid (by unfold expB; rw [HS.out, hp, hl.out, decide_eq_true h6]; rfl)
      have HF1 : Hid (R_SharesExplain_1 s d = true) := Lib.hid HX.out
      have HF2 : Hid (R_SharesExplain_0 s d = expL s d) := Lib.hid (by unfold R_SharesExplain_0; rw [if_pos HX.out])
      have HG := exp_good HS.out hp (by rw [hl.out]; exact h6)
      rw [hl.out] at HG
      clear no hp
      go_wp2_with fail
      refine (i_explained A n c s d w1 ((H.out.below HB.out).more hz) (by omega) HG).mono ?_
      rintro e w2 ⟨g, rfl, ho, hb⟩
      have HO := Lib.hid (ho.widen hz (Nat.le_refl _))
      have HB2 := Lib.hid (HB.out.trans (hb.mono hz))
      clear ho hb HG
      go_wp2
      go_ret2
      refine ⟨_, ret_vb HF1.out.symm, ?_, HB2.out⟩
      rw [HF2.out]
      exact HO.out
  · have t6 : decide ((6 : Int) < (n : Int)) = true := decide_eq_true (by omega)
    have HF := no (by unfold expB; rw [decide_eq_false (by rw [hl.out]; exact h6)]; simp)
    clear no
    go_wp2
    go_ret2
    refine ⟨_, ret_vb HF.out.1.symm, ?_, Below.refl _ _⟩
    rw [HF.out.2]; exact OwIntT.nil_ _ _ _
end Go.Proofs.Ytpaaimmakkfbkaa

/- P29: the law's walk. -/
namespace Go.Proofs.Ytpaaimmakkfbkaa
open Go.RowKit
set_option maxRecDepth 100000

set_option maxHeartbeats 4000000 in
theorem P29_walk (A : Option Addr) (n c : Nat) (bs : List Int) (A2 : Option Addr) (n2 c2 : Nat) (bs2 : List Int) (w : World) (h : Rd w w.heap.size 1 A n (cU bs)) (hb : Byt bs) (hc : n ≤ c) (hm : n ≤ 9223372036854775807)
    (h2 : Rd w w.heap.size 1 A2 n2 (cU bs2)) (hb2 : Byt bs2) (hc2 : n2 ≤ c2) (hm2 : n2 ≤ 9223372036854775807) :
    Calls Try.prog 3 #[.slice A n c, .slice A2 n2 c2] w fun e w' => e = .returned (.bool true) ∧ Below w.heap.size w w' := by
  by_cases hn : n ≤ 1048576
  · have h3 : ¬ ((1048576 : Int) < (n : Int)) := by omega
    by_cases hn2 : n2 ≤ 1048576
    · have h4 : ¬ ((1048576 : Int) < (n2 : Int)) := by omega
      have H := Lib.hid h
      have H2 := Lib.hid h2
      clear h h2
      go_enter Try.func3, Try.ntmps3
      go_wp2_with fail
      refine (d_DrawSharesOf _ _ _ _ _ H.out hb hn hc).mono ?_
      rintro e w1 ⟨s, N, v, t, rfl, ⟨hN0, hN8⟩, ho, h6, hb1⟩
      have B1 := Lib.hid hb1
      obtain ⟨_, At, nt, ct, rfl, rt⟩ := ho
      have hnt := rt.len
      obtain rfl : nt = t.length := by omega
      have R1 : Hid (Rd w1 w1.heap.size 1 At t.length (cI t)) := Lib.hid rt.rd
      have hts : szIntS t ≤ 1048576 := by unfold szIntS; omega
      clear hb1 rt hnt H
      go_wp2_with fail
      refine (X_i_SharesOf _ s N t w1 ⟨_, _, _, rfl, by omega, R1.out⟩ hts).mono ?_
      rintro e w2 ⟨g1, rfl, ho1, hb2'⟩
      have B2 := Lib.hid (B1.out.trans (hb2'.mono B1.out.size))
      have R2 := Lib.hid ((R1.out.below hb2').more hb2'.size)
      obtain ⟨_, A3, n3, c3, rfl, r3⟩ := ho1
      have P2 := Lib.hid r3.rd
      have HC3 := Lib.hid r3.2.1
      clear hb2' R1 B1 r3
      go_wp2_with fail
      refine (X_s_SharesOf _ s N t w2 ⟨_, _, _, rfl, by omega, R2.out⟩ hts).mono ?_
      rintro e w3 ⟨g2, rfl, ho2, hb3⟩
      have B3 := Lib.hid (B2.out.trans (hb3.mono B2.out.size))
      have R3 := Lib.hid ((R2.out.below hb3).more hb3.size)
      have P3 := Lib.hid ((P2.out.below hb3).more hb3.size)
      obtain ⟨_, A4, n4, c4, rfl, r4⟩ := ho2
      obtain rfl : n4 = n3 := by have e1 := r4.plen; have e2 := P2.out.plen; omega
      have Q3 := Lib.hid r4.rd
      have hn4 : n4 ≤ 1048576 := by
        have e1 := r4.plen
        unfold R_SharesOf_0 at e1
        split at e1
        · rw [uptoF_length] at e1; omega
        · simp at e1; omega
      clear hb3 R2 P2 r4 B2
      go_wp2_with fail
      refine (u_uvPoints _ _ _ _ _ _ w3 P3.out Q3.out hn4).mono ?_
      rintro e w4 ⟨rfl, m4, hw4⟩
      have B4 : Hid (Below w.heap.size w w4) := Lib.hid (by rw [hw4]; exact below_drewN B3.out _)
      have R4 : Hid (Rd w4 w4.heap.size 1 At t.length (cI t)) := Lib.hid (by rw [hw4]; exact R3.out.drewN m4)
      have P4 : Hid (Rd w4 w4.heap.size 2 A3 n4 (cP (R_SharesOf_0 s N t))) := Lib.hid (by rw [hw4]; exact P3.out.drewN m4)
      have Q4 : Hid (Rd w4 w4.heap.size 2 A4 n4 (cP (R_SharesOf_0 s N t))) := Lib.hid (by rw [hw4]; exact Q3.out.drewN m4)
      clear hw4 B3 R3 P3 Q3
      cases hB : R_SharesOf_1 s N t
      · go_wp2_with fail
        refine (u_uvPoints _ _ _ _ _ _ w4 P4.out Q4.out hn4).mono ?_
        rintro e w5 ⟨rfl, m5, rfl⟩
        go_wp2
        go_ret
        exact ⟨rfl, below_drewN B4.out _⟩
      · have HB := Lib.hid (show ofB s N t = true from hB)
        obtain ⟨_, _, ⟨N1, N7⟩, tN⟩ := ofB_parts HB.out
        have HX : Hid (R_SharesOf_0 s N t = uptoF (shF (s :: t)) N.toNat) := Lib.hid (by unfold R_SharesOf_0; rw [if_pos HB.out])
        have HN4 : Hid (n4 = N.toNat) := Lib.hid (by have := P4.out.plen; rw [HX.out, uptoF_length] at this; omega)
        have hk4 : t.length ≤ n4 := by have := HN4.out; omega
        have hk3 : t.length ≤ c3 := by have := HC3.out; omega
        have XC : Hid (∀ wq, Rd wq w4.heap.size 2 A3 n4 (cP (R_SharesOf_0 s N t)) → Rd wq w4.heap.size 2 A3 t.length (cP (uptoF (shF (s :: t)) t.length))) := Lib.hid (fun wq hq => by
          have := hq.headP hk4
          rwa [HX.out, uptoF_take _ (by have := HN4.out; omega)] at this)
        obtain ⟨a3, hA3⟩ : ∃ a3, A3 = some a3 := by
          obtain ⟨a, e, _⟩ := P4.out.2 (by have := HN4.out; omega)
          exact ⟨a, e⟩
        subst hA3
        have X4 := Lib.hid (XC.out _ P4.out)
        have hszX : szPointS (uptoF (shF (s :: t)) t.length) ≤ 1048576 := by unfold szPointS; rw [uptoF_length]; omega
        have it : ((t.length : Nat) : Int).toNat = t.length := by omega
        have j0 : (0 : Int) ≤ (t.length : Int) := by omega
        have j1 : (t.length : Int) ≤ (c3 : Int) := by omega
        clear P4 Q4 XC hB
        go_wp2_with fail
        refine (d_DrawNumOk _ _ _ _ _ ((H2.out.below B4.out).more B4.out.size) hb2 hn2 hc2).mono ?_
        rintro e w5 ⟨o, rfl, ⟨ho0, ho1⟩, hb5⟩
        have B5 := Lib.hid (B4.out.trans (hb5.mono B4.out.size))
        have R5 := Lib.hid ((R4.out.below hb5).more hb5.size)
        have X5 := Lib.hid ((X4.out.below hb5).more hb5.size)
        clear hb5 R4 X4 B4 H2
        go_wp2_with fail
        refine (X_i_SharesExplain _ s _ w5 ⟨_, _, _, rfl, by omega, X5.out⟩ hszX).mono ?_
        rintro e w6 ⟨g6, rfl, hg6, hb6⟩
        have B6 := Lib.hid (B5.out.trans (hb6.mono B5.out.size))
        have R6 := Lib.hid ((R5.out.below hb6).more hb6.size)
        have X6 := Lib.hid ((X5.out.below hb6).more hb6.size)
        rw [back_is HB.out] at hg6
        obtain ⟨Ab, nb, cb, rfl, _, gb⟩ := hg6.rd
        obtain rfl : nb = t.length := by have := gb.len; omega
        have G6 := Lib.hid gb
        rw [back_ok HB.out]
        clear hb6 hg6 gb R5 X5 B5
        go_wp2_with fail
        refine (X_i_SharesExplain _ o _ w6 ⟨_, _, _, rfl, by omega, X6.out⟩ hszX).mono ?_
        rintro e w7 ⟨g7, rfl, hg7, hb7⟩
        have B7 := Lib.hid (B6.out.trans (hb7.mono B6.out.size))
        have R7 := Lib.hid ((R6.out.below hb7).more hb7.size)
        have X7 := Lib.hid ((X6.out.below hb7).more hb7.size)
        have G7 := Lib.hid ((G6.out.below hb7).more hb7.size)
        obtain ⟨Au, nu, cu, rfl, hmu, gu⟩ := hg7.rd
        have U7 := Lib.hid gu
        have hsu := hg7.small
        clear hb7 hg7 gu R6 X6 G6 B6
        go_wp2_with fail
        refine (X_i_SharesOf _ o N _ w7 ⟨_, _, _, rfl, hmu, U7.out⟩ hsu).mono ?_
        rintro e w8 ⟨g8, rfl, hg8, hb8⟩
        have B8 := Lib.hid (B7.out.trans (hb8.mono B7.out.size))
        have R8 := Lib.hid ((R7.out.below hb8).more hb8.size)
        have X8 := Lib.hid ((X7.out.below hb8).more hb8.size)
        have G8 := Lib.hid ((G7.out.below hb8).more hb8.size)
        obtain ⟨_, A9, n9, c9, rfl, r9⟩ := hg8
        have Y8 := Lib.hid r9.rd
        have HC9 := Lib.hid r9.2.1
        have hU1 := fun q => u_uvIntsQ Ab At t.length cb ct t (w8.drewN q) (G8.out.drewN q) (R8.out.drewN q) (by omega)
        have HU1 := Lib.hid hU1
        clear hb8 r9 R7 X7 G7 B7 hU1
        cases hso : R_SharesExplain_1 o (uptoF (shF (s :: t)) t.length)
        · cases hto : R_SharesOf_1 o N (R_SharesExplain_0 o (uptoF (shF (s :: t)) t.length))
          all_goals
            go_wp2
            go_quiet ((go_at_call 10; exact quiet_ex (HU1.out _)))
            go_wp2
            go_ret
            exact ⟨rfl, below_drewN B8.out _⟩
        · obtain ⟨hoo, hyy⟩ := other_ok HB.out hso
          have HE : Hid (R_SharesExplain_0 o (uptoF (shF (s :: t)) t.length) = expL o (uptoF (shF (s :: t)) t.length)) := Lib.hid (by unfold R_SharesExplain_0; rw [if_pos (show expB o _ = true from hso)])
          have HT : Hid (R_SharesOf_1 o N (R_SharesExplain_0 o (uptoF (shF (s :: t)) t.length)) = true) := Lib.hid (by rw [HE.out]; exact hoo)
          have HY : Hid (R_SharesOf_0 o N (R_SharesExplain_0 o (uptoF (shF (s :: t)) t.length)) = uptoF (shF (o :: expL o (uptoF (shF (s :: t)) t.length))) N.toNat) := Lib.hid (by rw [HE.out]; unfold R_SharesOf_0; rw [if_pos hoo])
          have HN9 : Hid (n9 = N.toNat) := Lib.hid (by have := Y8.out.plen; rw [HY.out, uptoF_length] at this; omega)
          have hk9 : t.length ≤ n9 := by have := HN9.out; omega
          have hk8 : t.length ≤ c9 := by have := HC9.out; omega
          obtain ⟨a9, hA9⟩ : ∃ a9, A9 = some a9 := by
            obtain ⟨a, e, _⟩ := Y8.out.2 (by have := HN9.out; omega)
            exact ⟨a, e⟩
          subst hA9
          have Z8 : Hid (Rd w8 w8.heap.size 2 (some a9) t.length (cP (uptoF (shF (s :: t)) t.length))) := Lib.hid (by
            have := Y8.out.headP hk9
            rwa [HY.out, uptoF_take _ (by omega), hyy] at this)
          have hU2 := fun q => u_uvPoints (some a9) (some a3) t.length c9 c3 _ (w8.drewN q) (Z8.out.drewN q) (X8.out.drewN q) (by omega)
          have HU2 := Lib.hid hU2
          have j9 : (t.length : Int) ≤ (c9 : Int) := by omega
          clear hoo hyy hU2 Y8
          rw [HT.out]
          go_wp2
          go_quiet ((first | (go_at_call 10; exact quiet_ex (HU1.out _)) | (go_at_call 7; exact quiet_ex (HU2.out _))))
          go_wp2
          go_ret
          exact ⟨rfl, below_drewN B8.out _⟩
    · have h4 : (1048576 : Int) < (n2 : Int) := by omega
      go_enter Try.func3, Try.ntmps3
      go_wp2
      go_ret
      exact ⟨rfl, Below.refl _ _⟩
  · have h3 : (1048576 : Int) < (n : Int) := by omega
    go_enter Try.func3, Try.ntmps3
    go_wp2
    go_ret
    exact ⟨rfl, Below.refl _ _⟩
end Go.Proofs.Ytpaaimmakkfbkaa

/- An argument of type []byte, opened. -/
namespace Go.Proofs.Ytpaaimmakkfbkaa
open Go.RowKit
set_option maxRecDepth 100000

section
open Go.ChangeShapes Go.WideShapes Go.ChangeAt Go.RowKit
/-- an argument of type []byte: a list of bytes that reads -/
theorem open_byteS {H : Type} {enc : TypeId × Value → H} {P : Program} {w : World} {b0 : Nat} {t e : TypeId} {r : Reach} {v : Value} {d : DataW H} {ps : List MemPlace} (ht : P.underlying t = some (.slice e)) (he : P.underlying e = some (.int .u8)) (hc : P.cellsOf e = 1)
    (hv : Value.okWide P w r b0 t v) (h : DataW.Trod enc P w 0 (fun _ => true) true t v d ps) :
    ∃ A n c zs, v = .slice A n c ∧ n ≤ 9223372036854775807 ∧ n ≤ c ∧ Rd w w.heap.size 1 A n (cU zs) ∧ Byt zs := by
  obtain ⟨A, n, c, rfl⟩ : ∃ A n c, v = .slice A n c := by
    cases v <;> simp [Value.okWide, ht, Cell.okWide, Cell.ok] at hv
    exact ⟨_, _, _, rfl⟩
  obtain ⟨fuel, hf⟩ := h
  rcases open_ints ht he hc hf with ⟨hn, _⟩ | ⟨a, len, cap, zs, hs, _, hlc, hm, hlen, _, hcell, hwz⟩
  · simp [Value.cells] at hn
    obtain ⟨rfl, rfl, rfl⟩ := hn
    exact ⟨_, _, _, [], rfl, by omega, Nat.le_refl _, ⟨by simp [cU], fun h => by omega⟩, fun j => by simp⟩
  · simp [Value.cells] at hs
    obtain ⟨rfl, rfl, rfl⟩ := hs
    simp only [if_true] at hlen
    unfold maxLen at hm
    have hby : Byt zs := fun j => by
      by_cases hj : j < zs.length
      · have hw := hwz zs[j] (List.getElem_mem hj)
        simp only [Lit.wf, IntKind.min, IntKind.max, IntKind.signed, IntKind.bits, Bool.and_eq_true] at hw
        simp [hj]
        simp at hw
        omega
      · simp [List.getElem?_eq_none (show zs.length ≤ j by omega)]
    refine ⟨_, _, _, zs.take n, rfl, by omega, by omega, ⟨by rw [cU_length, List.length_take]; omega, fun hn => ⟨a, rfl, ?_, fun j u hu => ?_⟩⟩, hby.take _⟩
    · have := hcell 0 (by omega)
      exact World.block_lt_of_cell? (a := a.add 0) _ this
    · have hj : j < n := by
        have := (List.getElem?_eq_some_iff.1 hu).1
        rw [cU_length, List.length_take] at this; omega
      simp only [cU, List.map_take, List.getElem?_take, if_pos hj, List.getElem?_map, List.getElem?_eq_getElem (show j < zs.length by omega), Option.map_some, Option.some.injEq] at hu
      rw [← hu, hcell j (by omega)]
      simp [show j < zs.length by omega]
end
end Go.Proofs.Ytpaaimmakkfbkaa
