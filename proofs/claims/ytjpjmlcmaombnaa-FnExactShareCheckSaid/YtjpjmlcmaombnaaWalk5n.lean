/- Chapter 4: SharesOf in the model. -/
import Derived.Test.YtjpjmlcmaombnaaWalk5h
import Derived.Test.YtjpjmlcmaombnaaWalk3a
namespace Go.Proofs.Ytjpjmlcmaombnaa
open Go.RowKit Go.Shelf
set_option maxRecDepth 100000

def shF (cs : List Int) (i : Nat) : Int × Int := ((i : Int) + 1, atI cs ((i : Int) + 1))
def ofB (s n : Int) (t : List Int) : Bool := numB s && (numsB t && (inB n 1 7 && decide ((t.length : Int) < n)))
def R_SharesOf_1 (s n : Int) (t : List Int) : Bool := ofB s n t
def R_SharesOf_0 (s n : Int) (t : List Int) : List (Int × Int) := if ofB s n t = true then uptoF (shF (s :: t)) n.toNat else []
theorem of_no {s n : Int} {t : List Int} (h : ofB s n t = false) : Hid (R_SharesOf_1 s n t = false ∧ R_SharesOf_0 s n t = []) := Lib.hid ⟨h, by unfold R_SharesOf_0; rw [h]; rfl⟩
theorem nums_cons {s : Int} {t : List Int} (h : 0 ≤ s ∧ s ≤ 112) (ht : Nums t) : Nums (s :: t) := fun j => by
  cases j with
  | zero => exact h
  | succ j => exact ht j
theorem lit_int (w : World) (s : Int) : (w.alloc (.cells #[.int .i64 s] 3)).ownsRow w.heap.size 3 1 (.slice (some ⟨w.heap.size, 0, none⟩) 1 1) 1 [.int .i64 s] :=
  ⟨rfl, .inr ⟨w.heap.size, 1, _, rfl, Nat.le_refl _, heap_alloc_new _ _, Nat.le_refl _, by unfold maxLen; omega, rfl, rfl⟩⟩
/-- another row is none of this type's blocks -/
theorem own_other {w : World} {B e t n s g : Nat} {v : Value} {xs : List Value} {cs : Array Value} (h : w.ownsRow B e s v n xs) (hte : e ≠ t) (hg : w.heap[g]? = some (.cells cs t (0, 0))) : v.ownBlock ≠ some g := by
  intro e1
  rcases h.2 with ⟨rfl, _⟩ | ⟨g', cap, cur, rfl, _, hh, _⟩
  · simp [Value.ownBlock] at e1
  · simp [Value.ownBlock] at e1
    subst e1
    rw [hg] at hh; injection hh with hh; injection hh with _ ht
    exact hte ht.symm

set_option maxHeartbeats 2000000 in
theorem s_l4Of (s : Int) (N : Nat) (A : Option Addr) (m c : Nat) (zs : List Int) (w : World) (h : Rd w w.heap.size 1 A m (cI zs)) (hm : m ≤ 1000) (hN : N ≤ 7) (hs : 0 ≤ s ∧ s ≤ 112) (hz : Nums zs) :
    Calls Try.prog 97 #[.int .i64 s, .int .i64 N, .slice A m c] w fun e w' => ∃ g, e = .returned g ∧ OwPointS w' w.heap.size w'.heap.size g (uptoF (shF (s :: zs)) N) ∧ Below w.heap.size w w' := by
  have HNU := Lib.hid (nums_cons hs hz)
  have HLN := Lib.hid h.len
  have HL : Hid ((w.alloc (.cells #[] 53)).heap.size = w.heap.size + 1) := Lib.hid (by simp)
  have HBa := Lib.hid ((Below.refl w.heap.size w).alloc (Nat.le_refl _) (.cells #[] 53))
  have HOa : Hid ((w.alloc (.cells #[] 53)).ownsRow w.heap.size 53 2 (.slice (some ⟨w.heap.size, 0, none⟩) 0 0) 0 (cP (uptoF (shF (s :: zs)) 0))) := Lib.hid (own_empty w _ 2)
  have HRa : Hid (Rd (w.alloc (.cells #[] 53)) w.heap.size 1 A m (cI zs)) := Lib.hid (h.below HBa.out)
  clear h
  go_enter Try.func97, Try.ntmps97
  have HLIT := Lib.hid (lit_int (w.alloc (.cells #[] 53)) s)
  have HZ2 : Hid ((w.alloc (.cells #[] 53)).heap.size ≤ ((w.alloc (.cells #[] 53)).alloc (.cells #[.int .i64 s] 3)).heap.size) := Lib.hid (by simp)
  have HR2 : Hid (Rd ((w.alloc (.cells #[] 53)).alloc (.cells #[.int .i64 s] 3)) w.heap.size 1 A m (cI zs)) := Lib.hid (HRa.out.below ((Below.refl _ _).alloc (by simp) _))
  have HO2 : Hid (((w.alloc (.cells #[] 53)).alloc (.cells #[.int .i64 s] 3)).ownsRow w.heap.size 53 2 (.slice (some ⟨w.heap.size, 0, none⟩) 0 0) 0 (cP (uptoF (shF (s :: zs)) 0))) := Lib.hid (HOa.out.alloc _)
  have HB2 : Hid (Below w.heap.size w ((w.alloc (.cells #[] 53)).alloc (.cells #[.int .i64 s] 3))) := Lib.hid (HBa.out.alloc (by simp) _)
  go_wp2_with (at_builtin
               refine wpList_append_rd rfl (.tmp 12) (.tmp 13) _ rfl (w.alloc (.cells #[] 53)).heap.size 3 _ 1 8 Try.underlying26 info_int rfl (by decide) (.slice (some ⟨w.heap.size + 1, 0, none⟩) 1 1) 1 [.int .i64 s] rfl (by have := HLIT.out; simp only [World.size_alloc] at this ⊢; exact this) _ A m c (cI zs) rfl HR2.out (cI_one _) (by unfold maxLen; omega) (by omega) HZ2.out ?_
               intro v5 w5 hown hgr hat
               obtain ⟨A5, c5, hv5, ho5⟩ := Ow.of_own hown
               subst hv5
               obtain ⟨gp, cp, hA5, gp1, gp2, hgp, htk⟩ := ho5.lt (by omega)
               subst hA5
               have HGP : Hid (w5.heap[gp]? = some (.cells cp 3 (0, 0)) ∧ cp.toList.take ((1 + m) * 1) = cI (s :: zs) ∧ w.heap.size ≤ gp ∧ 1 + m ≤ c5) := Lib.hid ⟨hgp, htk, by have := HL.out; omega, ho5.2.1⟩
               have HB5 : Hid (Below w.heap.size w w5) := Lib.hid (below_grown HB2.out hgr (fun g e => by simp [Value.ownBlock] at e; omega) (by have := HZ2.out; have := HL.out; omega))
               have HO5 : Hid (w5.ownsRow w.heap.size 53 2 (.slice (some ⟨w.heap.size, 0, none⟩) 0 0) 0 (cP (uptoF (shF (s :: zs)) 0))) := Lib.hid (HO2.out.kept hgr (.inr (by simp [Value.ownBlock])))
               clear hown hgr hat ho5 gp1 gp2 hgp htk)
  clear HOa HRa HLIT HZ2 HR2 HO2 HB2 HBa HL
  go_loopw [7, 9] (fun out i wr => ∃ (k : Nat) (Ao : Option Addr) (co : Nat), k ≤ N ∧ i = .int .i64 ((k : Int) + 1) ∧ out = .slice Ao k co ∧ Hid (wr.ownsRow w.heap.size 53 2 (.slice Ao k co) k (cP (uptoF (shF (s :: zs)) k))) ∧ Hid (Below w.heap.size w wr) ∧ Hid (wr.heap[gp]? = some (.cells cp 3 (0, 0)))) (fun _ i _ => N + 1 - (intOf i).toNat)
  case atStart => exact ⟨0, _, 0, Nat.zero_le _, rfl, rfl, HO5, HB5, Lib.hid HGP.out.1⟩
  case round =>
    clear HO5 HB5
    obtain ⟨k, Ao, co, hk, rfl, rfl, HO, HB, HC⟩ := hrel
    by_cases hlt : k < N
    · have i0 : (0 : Int) ≤ (k : Int) := by omega
      have i1 : (k : Int) + 1 ≤ (N : Int) := by omega
      have HRp : Hid (Rd wr wr.heap.size 1 (some ⟨gp, 0, none⟩) (1 + m) (cI (s :: zs))) := Lib.hid (Ow.rd (w := wr) (lo := w.heap.size) (e := 3) (c := c5) ⟨by rw [cI_length, List.length_cons, HLN.out]; omega, HGP.out.2.2.2, .inr ⟨gp, cp, rfl, HGP.out.2.2.1, (Array.getElem?_eq_some_iff.1 HC.out).1, HC.out, HGP.out.2.1⟩⟩)
      go_wp2_with fail
      refine (s_l2At _ _ _ _ _ _ HRp.out HNU.out (by omega) (by omega) (by omega)).mono ?_
      rintro e w2 ⟨rfl, rfl⟩
      have hzw := HB.out.size
      have HOl := Lib.hid (HO.out.alloc (.cells #[.int .i64 ((k : Int) + 1), .int .i64 (atI (s :: zs) ((k : Int) + 1))] 53))
      have HLP : Hid (Rd (wr.alloc (.cells #[.int .i64 ((k : Int) + 1), .int .i64 (atI (s :: zs) ((k : Int) + 1))] 53)) (wr.heap.size + 1) 2 (some ⟨wr.heap.size, 0, none⟩) 1 (cP [((k : Int) + 1, atI (s :: zs) ((k : Int) + 1))])) := Lib.hid (lit_pt_at (heap_alloc_new _ _))
      go_wp2_with (at_builtin
                   refine wpList_append_rd rfl (.tmp 20) (.tmp 26) _ rfl w.heap.size 53 _ 2 16 Try.underlying29 info_pt rfl (by decide) (.slice Ao k co) k _ rfl HOl.out _ _ 1 1 (cP [((k : Int) + 1, atI (s :: zs) ((k : Int) + 1))]) rfl HLP.out (cP_one _) (by unfold maxLen; omega) (by omega) (by simp; omega) ?_
                   intro v6 w6 hown hgr hat
                   obtain ⟨A6, c6, hv6, ho6⟩ := Ow.of_own hown
                   subst hv6
                   have HO6 : Hid (w6.ownsRow w.heap.size 53 2 (.slice A6 (k + 1) c6) (k + 1) (cP (uptoF (shF (s :: zs)) (k + 1)))) := Lib.hid (by rw [uptoF_succ, cP_append]; exact hown)
                   have HB6 : Hid (Below w.heap.size w w6) := Lib.hid (below_grown (HB.out.alloc hzw _) hgr (own_block HO.out) (by simp; omega))
                   have HC6 : Hid (w6.heap[gp]? = some (.cells cp 3 (0, 0))) := Lib.hid ((hgr.block gp (by have := (Array.getElem?_eq_some_iff.1 HC.out).1; simp; omega) (fun e => own_other HO.out (by decide) HC.out e.symm)).trans ((Below.heap_alloc _ _ _ (Array.getElem?_eq_some_iff.1 HC.out).1).trans HC.out))
                   clear hown hgr hat ho6)
      go_roundw
      case rel => exact ⟨k + 1, A6, c6, by omega, by go_num, rfl, HO6, HB6, HC6⟩
      case measure => simp [intOf] <;> omega
    · obtain rfl : N = k := by omega
      have HOr : Hid (OwPointS wr w.heap.size wr.heap.size (.slice Ao N co) (uptoF (shF (s :: zs)) N)) := Lib.hid (done_pts HO.out (by omega))
      go_wp2
      go_ret
      exact ⟨_, rfl, HOr.out, HB.out⟩
end Go.Proofs.Ytjpjmlcmaombnaa
