/- Chapter 4: SharesScale in the model. -/
import Derived.Test.YticmbnfmpjjohaaWalk5d
import Derived.Deep.RegionHeld3
import Derived.Deep.RegionLaw
import Derived.Test.YticmbnfmpjjohaaWalk3c
namespace Go.Proofs.Yticmbnfmpjjohaa
open Go.RowKit
set_option maxRecDepth 100000

def sclP (ps : List (Int × Int)) (b : Int) (k : Nat) : List (Int × Int) := (List.range k).map fun i => (px ps i, py ps i * b % 113)
theorem sclP_succ (ps : List (Int × Int)) (b : Int) (k : Nat) : sclP ps b (k + 1) = sclP ps b k ++ [(px ps k, py ps k * b % 113)] := by simp [sclP, List.range_succ]
theorem sclP_length (ps : List (Int × Int)) (b : Int) (k : Nat) : (sclP ps b k).length = k := by simp [sclP]
def R_SharesScale_1 (d : List (Int × Int)) (b : Int) : Bool := numK d d.length && numB b
def R_SharesScale_0 (d : List (Int × Int)) (b : Int) : List (Int × Int) := if R_SharesScale_1 d b = true then sclP d b d.length else []
theorem cP_append (ps qs : List (Int × Int)) : cP (ps ++ qs) = cP ps ++ cP qs := by simp [cP]
theorem lit_pt_at {w : World} {B e : Nat} {u v : Value} (h : w.heap[B]? = some (.cells #[u, v] e (0, 0))) : Rd w (B + 1) 2 (some ⟨B, 0, none⟩) 1 [u, v] :=
  ⟨rfl, fun _ => ⟨_, rfl, Nat.lt_succ_self _, fun j x hx => by
    have hj : j < 2 := by have := (List.getElem?_eq_some_iff.1 hx).1; simpa using this
    rw [show (⟨B, 0, none⟩ : Addr).add j = ⟨B, 0 + j, none⟩ from addr_add B 0 j, Nat.zero_add, cell_of_row w B j _ _ _ h]
    simpa using hx⟩⟩
theorem done_pts {w1 : World} {B k : Nat} {v : Value} {ys : List (Int × Int)} (h : w1.ownsRow B 33 2 v k (cP ys)) (hs : k ≤ 1048576) : OwPointS w1 B w1.heap.size v ys := by
  obtain ⟨A, c, rfl, ho⟩ := Ow.of_own h
  exact ⟨by have := ho.plen; omega, A, _, c, rfl, ho⟩
section
variable {ops : Array Oper} {o : Oper} {a : Act} {K : Act → World → Prop} {Q : Exit → Act → World → Prop} {E : Prop} {W wr w : World}
/-- append(out, Point) -/
theorem step_pt (hgd : o.guard = none) (s x : Operand)
    (ho : o.op = .call { callee := .builtin .append, args := #[s, x], argTypes := #[23, 23] })
    {g k co : Nat} {A : Option Addr} {ps : List (Int × Int)} {p q : Int} (hs : a.eval s = .slice A k co) (hx : a.eval x = .slice (some ⟨g, 0, none⟩) 1 1)
    (HO : wr.ownsRow w.heap.size 33 2 (.slice A k co) k (cP ps)) (HB : Below w.heap.size w wr) (hW : Below wr.heap.size wr W)
    (hl : W.heap[g]? = some (.cells #[.int .i64 p, .int .i64 q] 33 (0, 0))) (hk : k ≤ 1048576)
    (h : ∀ A3 c3 w3, Hid (w3.ownsRow w.heap.size 33 2 (.slice A3 (k + 1) c3) (k + 1) (cP (ps ++ [(p, q)]))) → Hid (Below w.heap.size w w3) → K (a.put o.dst (.slice A3 (k + 1) c3)) w3) :
    if Region.wanted o (yielded ops a.tmps) = true then Oper.wp Try.prog o a W K Q else E := by
  have hz := HB.size
  have hb4 : Below w.heap.size w W := HB.trans (hW.mono hz)
  refine step_append_rd hgd s x _ ho w.heap.size 33 _ 2 16 Try.underlying23 info_pt rfl (by decide) (.slice A k co) k (cP ps) hs (ownsRow_below HO hW) _ _ 1 1 (cP [(p, q)]) hx (lit_pt_at hl) (cP_one _) (by unfold maxLen; omega) (by omega) hb4.size ?_
  intro v3 w3 hown' hg _
  obtain ⟨A3, c3, rfl, h1⟩ := Ow.of_own hown'
  exact h A3 c3 w3 (Lib.hid (by rw [cP_append]; exact hown')) (Lib.hid (below_grown hb4 hg (own_block HO) hb4.size))
end

set_option maxHeartbeats 2000000 in
theorem X_s_SharesScale (v : Value) (d : List (Int × Int)) (b : Int) (w : World) (h : RdPointS w w.heap.size v d) (hs : szPointS d ≤ 1048576) :
    Calls Try.prog 52 #[v, .int .i64 b] w fun e w' => ∃ g, e = .returned (.tuple #[g, .bool (R_SharesScale_1 d b)]) ∧ OwPointS w' w.heap.size w'.heap.size g (R_SharesScale_0 d b) ∧ Below w.heap.size w w' := by
  obtain ⟨A, n, c, rfl, hm, r⟩ := h
  have hn : n ≤ 1048576 := by have := r.plen; unfold szPointS at hs; omega
  have hl := Lib.hid r.plen
  have H := Lib.hid r
  clear r hs hm
  have no : R_SharesScale_1 d b = false → Hid (R_SharesScale_1 d b = false ∧ R_SharesScale_0 d b = []) := fun h => Lib.hid ⟨h, by unfold R_SharesScale_0; rw [h]; rfl⟩
  cases hp : numK d n
  · have HF := no (by unfold R_SharesScale_1; rw [hl.out, hp]; rfl)
    clear no
    go_enter Try.func52, Try.ntmps52
    go_wp2_with fail
    refine (s_l4Points _ _ _ _ _ H.out hn).mono ?_
    rintro e w1 ⟨rfl, rfl⟩
    rw [hp]
    go_wp2
    go_ret2
    refine ⟨_, ret_vb HF.out.1.symm, ?_, Below.refl _ _⟩
    rw [HF.out.2]; exact OwPointS.nil_ _ _ _
  · cases hb : numB b
    · have HF := no (by unfold R_SharesScale_1; rw [hl.out, hp, hb]; rfl)
      clear no
      go_enter Try.func52, Try.ntmps52
      go_wp2_with fail
      refine (s_l4Points _ _ _ _ _ H.out hn).mono ?_
      rintro e w1 ⟨rfl, rfl⟩
      rw [hp]
      go_wp2_with fail
      refine (s_NumOk _ _).mono ?_
      rintro e w1 ⟨rfl, rfl⟩
      rw [hb]
      go_wp2
      go_ret2
      refine ⟨_, ret_vb HF.out.1.symm, ?_, Below.refl _ _⟩
      rw [HF.out.2]; exact OwPointS.nil_ _ _ _
    · have HF1 : Hid (R_SharesScale_1 d b = true) := Lib.hid (by unfold R_SharesScale_1; rw [hl.out, hp, hb]; rfl)
      have HF2 : Hid (R_SharesScale_0 d b = sclP d b n) := Lib.hid (by unfold R_SharesScale_0; rw [if_pos HF1.out, hl.out])
      have hbr := (numB_iff b).1 hb
      have HAT := Lib.hid fun k (hk : k < n) => numK_at hp hk
      go_enter Try.func52, Try.ntmps52
      go_wp2_with fail
      refine (s_l4Points _ _ _ _ _ H.out hn).mono ?_
      rintro e w1 ⟨rfl, rfl⟩
      rw [hp]
      go_wp2_with fail
      refine (s_NumOk _ _).mono ?_
      rintro e w1 ⟨rfl, rfl⟩
      rw [hb]
      go_wp2
      clear hp hb no
      have H0 : Hid ((w.alloc (.cells #[] 33)).ownsRow w.heap.size 33 2 (.slice (some ⟨w.heap.size, 0, none⟩) 0 0) 0 (cP (sclP d b 0))) := Lib.hid (own_empty w _ 2)
      have HB0 : Hid (Below w.heap.size w (w.alloc (.cells #[] 33))) := Lib.hid ((Below.refl _ _).alloc (Nat.le_refl _) _)
      go_loopw [6, 7] (fun out i wr => ∃ (k : Nat) (Ao : Option Addr) (co : Nat), k ≤ n ∧ i = .int .i64 k ∧ out = .slice Ao k co ∧ Hid (wr.ownsRow w.heap.size 33 2 (.slice Ao k co) k (cP (sclP d b k))) ∧ Hid (Below w.heap.size w wr)) (fun _ i _ => n - (intOf i).toNat)
      case atStart => exact ⟨0, _, 0, Nat.zero_le _, rfl, rfl, H0, HB0⟩
      case round =>
        clear H0 HB0
        obtain ⟨k, Ao, co, hk, rfl, rfl, HO, HB⟩ := hrel
        by_cases hlt : k < n
        · obtain ⟨a, x, y, rfl, hab, hx0, hy0, HP⟩ := H.out.ptAt hlt
          have hx := (HB.out.cell (p := a.add (k * 2)) (by rw [add_block]; exact hab)).trans hx0
          have hy := (HB.out.cell (p := ⟨(a.add (k * 2)).block, (a.add (k * 2)).off + 1, none⟩) (by rw [add_block]; exact hab)).trans hy0
          have HXY := Lib.hid (pxy HP.out)
          have HX0 := Lib.hid hx0
          have HY0 := Lib.hid hy0
          clear hx0 hy0
          have hat := HAT.out k hlt
          rw [HXY.out.1, HXY.out.2] at hat
          obtain ⟨t0, t1⟩ := mul_bd y b hat.2.1 hat.2.2 hbr.1 hbr.2
          have HAB : Hid ((a.add (k * 2)).block < wr.heap.size) := Lib.hid (by rw [add_block]; exact Nat.lt_of_lt_of_le hab HB.out.size)
          have i0 : (0 : Int) ≤ (k : Int) := by omega
          have i1 : (k : Int) < (n : Int) := by omega
          have iw : IntKind.i64.wrap (y * b) = y * b := IntWalk.i64_in _ (by omega)
          have im : (y * b).tmod 113 = y * b % 113 := Int.tmod_eq_emod_of_nonneg t0
          clear hat t0 t1
          go_wp2
          go_region_held3 (fun w' => w'.cell? (a.add (k * 2)) = some (.int .i64 x) ∧ w'.cell? ⟨(a.add (k * 2)).block, (a.add (k * 2)).off + 1, none⟩ = some (.int .i64 y)) (go_keep) (first
            | (refine step_pt (w := w) (wr := wr) (p := x) (q := y * b % 113) rfl (.tmp 23) (.tmp 38) rfl rfl rfl HO.out HB.out ?hW ?hl (by omega) ?_
               case hW => first | exact (Below.refl _ _).alloc (Nat.le_refl _) _ | exact below_drew ((Below.refl _ _).alloc (Nat.le_refl _) _) | exact (below_drew (Below.refl _ _)).alloc (Nat.le_refl _) _
               case hl => exact heap_alloc_new _ _
               intro A3 c3 w3 h6 h7
               have hx3 := (h7.out.cell (p := a.add (k * 2)) (by rw [add_block]; exact hab)).trans HX0.out
               have hy3 := (h7.out.cell (p := ⟨(a.add (k * 2)).block, (a.add (k * 2)).off + 1, none⟩) (by rw [add_block]; exact hab)).trans HY0.out))
          all_goals (
            have HO2 : Hid (w3.ownsRow w.heap.size 33 2 (.slice A3 (k + 1) c3) (k + 1) (cP (sclP d b (k + 1)))) := Lib.hid (by
              rw [sclP_succ, HXY.out.1, HXY.out.2]; exact h6.out)
            clear h6 hx3 hy3 iw im
            go_wp2
            go_roundw
            case rel => exact ⟨k + 1, A3, c3, by omega, by go_num, rfl, HO2, h7⟩
            case measure => simp [intOf] <;> omega)
        · obtain rfl : n = k := by omega
          have HOr : Hid (OwPointS wr w.heap.size wr.heap.size (.slice Ao n co) (R_SharesScale_0 d b)) := Lib.hid (by rw [HF2.out]; exact done_pts HO.out hn)
          go_wp2
          go_ret2
          exact ⟨_, ret_vb HF1.out.symm, HOr.out, HB.out⟩
end Go.Proofs.Yticmbnfmpjjohaa
