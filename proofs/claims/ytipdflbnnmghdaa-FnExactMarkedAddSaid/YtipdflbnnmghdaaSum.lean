/- Sums of numbers in the model; an append of a number in a region that draws. -/
import Derived.Test.YtipdflbnnmghdaaSumI
import Derived.Test.YtipdflbnnmghdaaWalk3c
namespace Go.Proofs.Ytipdflbnnmghdaa
open Go.RowKit
set_option maxRecDepth 100000

set_option maxHeartbeats 1000000 in
theorem s_l10Sum (A : Option Addr) (n c : Nat) (zs : List Int) (w : World) (h : Rd w w.heap.size 1 A n (cI zs)) (hN : Nums zs) (hn : n ≤ 1048576) :
    Calls Try.prog 100 #[.slice A n c] w fun e w' => e = .returned (.int .i64 (sumI zs)) ∧ w = w' := by
  have hlen : Hid (zs.length = n) := Lib.hid h.len
  have H := Lib.hid h
  have HN := Lib.hid hN
  clear h hN
  go_enter Try.func100, Try.ntmps100
  go_wp2
  go_loop [3, 4] (fun o i => ∃ (k : Nat) (M : Int), k ≤ n ∧ i = .int .i64 k ∧ o = .int .i64 M ∧ 0 ≤ M ∧ M ≤ 112 ∧ Hid (M = sumK zs k)) (fun _ i => n - (intOf i).toNat)
  case atStart => exact ⟨0, 0, Nat.zero_le _, rfl, rfl, by omega, by omega, Lib.hid rfl⟩
  case round =>
    obtain ⟨k, M, hk, rfl, rfl, M0, M1, HM⟩ := hrel
    by_cases hlt : k < n
    · obtain ⟨a, z, rfl, hab, hck, HZ⟩ := H.out.intAt hlt
      have z0 : 0 ≤ z := by rw [HZ.out]; exact (HN.out k).1
      have z1 : z ≤ 112 := by rw [HZ.out]; exact (HN.out k).2
      have HE : Hid ((M + z) % 113 = sumK zs (k + 1)) := Lib.hid (by rw [sumK, ← HZ.out, HM.out])
      clear HM
      go_wp2
      go_round
      case rel => exact ⟨k + 1, (M + z) % 113, by omega, by go_num, rfl, by omega, by omega, HE⟩
      case measure => simp [intOf] <;> omega
    · have hkn : k = n := by omega
      have HF : Hid (M = sumI zs) := Lib.hid (by rw [HM.out, sumI, hlen.out, hkn])
      clear HM hkn
      go_wp2
      go_ret
      exact ⟨ret_i HF.out, rfl⟩

section
variable {ops : Array Oper} {o : Oper} {a : Act} {K : Act → World → Prop} {Q : Exit → Act → World → Prop} {E : Prop} {W wr w : World}
/-- append(out, number), in a region that draws -/
theorem step_int (hgd : o.guard = none) (s x : Operand)
    (ho : o.op = .call { callee := .builtin .append, args := #[s, x], argTypes := #[24, 24] })
    {g k co : Nat} {A : Option Addr} {ps : List Int} {p : Int} (hs : a.eval s = .slice A k co) (hx : a.eval x = .slice (some ⟨g, 0, none⟩) 1 1)
    (HO : wr.ownsRow w.heap.size 3 1 (.slice A k co) k (cI ps)) (HB : Below w.heap.size w wr) (hW : Below wr.heap.size wr W)
    (hl : W.heap[g]? = some (.cells #[.int .i64 p] 3 (0, 0))) (hk : k ≤ 1048576)
    (h : ∀ A3 c3 w3, Hid (w3.ownsRow w.heap.size 3 1 (.slice A3 (k + 1) c3) (k + 1) (cI (ps ++ [p]))) → Hid (Below w.heap.size w w3) → K (a.put o.dst (.slice A3 (k + 1) c3)) w3) :
    if Region.wanted o (yielded ops a.tmps) = true then Oper.wp Try.prog o a W K Q else E := by
  have hz := HB.size
  have hb4 : Below w.heap.size w W := HB.trans (hW.mono hz)
  refine step_append_rd hgd s x _ ho w.heap.size 3 _ 1 8 Try.underlying24 info_int rfl (by decide) (.slice A k co) k (cI ps) hs (ownsRow_below HO hW) _ _ 1 1 (cI [p]) hx (lit_at hl) (cI_one _) (by unfold maxLen; omega) (by omega) hb4.size ?_
  intro v3 w3 hown' hg _
  obtain ⟨A3, c3, rfl, h1⟩ := Ow.of_own hown'
  exact h A3 c3 w3 (Lib.hid (by rw [cI_append]; exact hown')) (Lib.hid (below_grown hb4 hg (own_block HO) hb4.size))
end
end Go.Proofs.Ytipdflbnnmghdaa
