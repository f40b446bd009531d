/- Chapter 4: SharesScale in the model. -/
import Derived.Test.YtaiilopfdjbceaaWalk5d
import Derived.Deep.RegionHeld3
import Derived.Deep.RegionLaw
import Derived.Test.YtaiilopfdjbceaaWalk3c
namespace Go.Proofs.Ytaiilopfdjbceaa
open Go.RowKit
set_option maxRecDepth 100000

def sclP (ps : List (Int × Int)) (b : Int) (k : Nat) : List (Int × Int) := (List.range k).map fun i => (px ps i, py ps i * b % 113)
theorem sclP_succ (ps : List (Int × Int)) (b : Int) (k : Nat) : sclP ps b (k + 1) = sclP ps b k ++ [(px ps k, py ps k * b % 113)] := by simp [sclP, List.range_succ]
theorem sclP_length (ps : List (Int × Int)) (b : Int) (k : Nat) : (sclP ps b k).length = k := by simp [sclP]
def R_SharesScale_1 (d : List (Int × Int)) (b : Int) : Bool := numK d d.length && numB b
def R_SharesScale_0 (d : List (Int × Int)) (b : Int) : List (Int × Int) := if R_SharesScale_1 d b = true then sclP d b d.length else []
theorem cP_append (ps qs : List (Int × Int)) : cP (ps ++ qs) = cP ps ++ cP qs := by simp [cP]
theorem lit_pt_at {w : World} {B e : Nat} {u v : Value} (h : w.heap[B]? = some (.cells #[u, v] e (0, 0))) : Rd w (B + 1) 2 (some ⟨B, 0, none⟩) 1 [u, v] :=
  ⟨rfl, fun _ => ⟨_, rfl, Nat.lt_succ_self _, fun j x hx => by
    have hj : j < 2 := by have := (List.getElem?_eq_some_iff.1 hx).1; simpa using this
    rw [show (⟨B, 0, none⟩ : Addr).add j = ⟨B, 0 + j, none⟩ from addr_add B 0 j, Nat.zero_add, cell_of_row w B j _ _ _ h]
    simpa using hx⟩⟩
theorem done_pts {w1 : World} {B k : Nat} {v : Value} {ys : List (Int × Int)} (h : w1.ownsRow B 44 2 v k (cP ys)) (hs : k ≤ 1048576) : OwPointS w1 B w1.heap.size v ys := by
  obtain ⟨A, c, rfl, ho⟩ := Ow.of_own h
  exact ⟨by have := ho.plen; omega, A, _, c, rfl, ho⟩
section
variable {ops : Array Oper} {o : Oper} {a : Act} {K : Act → World → Prop} {Q : Exit → Act → World → Prop} {E : Prop} {W wr w : World}
/-- append(out, Point) -/
theorem step_pt (hgd : o.guard = none) (s x : Operand)
    (ho : o.op = .call { callee := .builtin .append, args := #[s, x], argTypes := #[29, 29] })
    {g k co : Nat} {A : Option Addr} {ps : List (Int × Int)} {p q : Int} (hs : a.eval s = .slice A k co) (hx : a.eval x = .slice (some ⟨g, 0, none⟩) 1 1)
    (HO : wr.ownsRow w.heap.size 44 2 (.slice A k co) k (cP ps)) (HB : Below w.heap.size w wr) (hW : Below wr.heap.size wr W)
    (hl : W.heap[g]? = some (.cells #[.int .i64 p, .int .i64 q] 44 (0, 0))) (hk : k ≤ 1048576)
    (h : ∀ A3 c3 w3, Hid (w3.ownsRow w.heap.size 44 2 (.slice A3 (k + 1) c3) (k + 1) (cP (ps ++ [(p, q)]))) → Hid (Below w.heap.size w w3) → K (a.put o.dst (.slice A3 (k + 1) c3)) w3) :
    if Region.wanted o (yielded ops a.tmps) = true then Oper.wp Try.prog o a W K Q else E := by
  have hz := HB.size
  have hb4 : Below w.heap.size w W := HB.trans (hW.mono hz)
  refine step_append_rd hgd s x _ ho w.heap.size 44 _ 2 16 Try.underlying29 info_pt rfl (by decide) (.slice A k co) k (cP ps) hs (ownsRow_below HO hW) _ _ 1 1 (cP [(p, q)]) hx (lit_pt_at hl) (cP_one _) (by unfold maxLen; omega) (by omega) hb4.size ?_
  intro v3 w3 hown' hg _
  obtain ⟨A3, c3, rfl, h1⟩ := Ow.of_own hown'
  exact h A3 c3 w3 (Lib.hid (by rw [cP_append]; exact hown')) (Lib.hid (below_grown hb4 hg (own_block HO) hb4.size))
end

end Go.Proofs.Ytaiilopfdjbceaa
