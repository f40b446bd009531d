/- Chapter 8 in the program: gatesOf. -/
import Derived.Test.YtlagkinamnjnhaaWalk8c
namespace Go.Proofs.Ytlagkinamnjnhaa
open Go.RowKit
set_option maxRecDepth 100000

theorem outs_no {b c : Bool} (h : b = false) : (b && c) = false := by rw [h]; rfl
set_option maxHeartbeats 4000000 in
theorem i_outsOk (A1 : Option Addr) (n1 c1 : Nat) (A2 : Option Addr) (n2 c2 : Nat) (z : Int) (d2 : List Int) (w : World) (h2 : Rd w w.heap.size 1 A2 n2 (cI d2)) (_hn1 : n1 ≤ 1048576) (hn2 : n2 ≤ 1048576) :
    Calls Try.prog 50 #[.agg #[.int .i64 z, .slice A1 n1 c1, .slice A2 n2 c2]] w fun e w' => e = .returned (.bool (outsK d2 n1 n2 && inB n2 1 16)) ∧ Below w.heap.size w w' := by
  have H2 := Lib.hid h2
  clear h2
  have HX : Hid (Bx (w.alloc (.cells #[.int .i64 z, .slice A1 n1 c1, .slice A2 n2 c2] 32)) w.heap.size #[.int .i64 z, .slice A1 n1 c1, .slice A2 n2 c2] 32) := Lib.hid (Bx.new _ _ _)
  have HB0 : Hid (Below w.heap.size w (w.alloc (.cells #[.int .i64 z, .slice A1 n1 c1, .slice A2 n2 c2] 32))) := Lib.hid ((Below.refl _ _).alloc (Nat.le_refl _) _)
  go_enter Try.func50, Try.ntmps50
  go_wp2
  go_loopw [8] (fun i wr => ∃ k : Nat, k ≤ n2 ∧ i = .int .i64 k ∧ Hid (outsK d2 n1 k = true) ∧ Hid (Bx wr w.heap.size #[.int .i64 z, .slice A1 n1 c1, .slice A2 n2 c2] 32) ∧ Hid (Below w.heap.size w wr)) (fun i _ => n2 - (intOf i).toNat)
  case atStart => exact ⟨0, Nat.zero_le _, rfl, Lib.hid rfl, HX, HB0⟩
  case round =>
    clear HX HB0
    obtain ⟨k, hk, rfl, HI, HX, HB⟩ := hrel
    have b1 : wr.cell? ⟨w.heap.size, 1, none⟩ = some (.slice A1 n1 c1) := HX.out.cell 1
    have b2 : wr.cell? ⟨w.heap.size, 2, none⟩ = some (.slice A2 n2 c2) := HX.out.cell 2
    by_cases hlt : k < n2
    · obtain ⟨a, x, hA, hab, hx0, HP⟩ := H2.out.intAt hlt
      have hx := (HB.out.cell (p := a.add k) (by rw [add_block]; exact hab)).trans hx0
      have i0 : (0 : Int) ≤ (k : Int) := by omega
      have i1 : (k : Int) < (n2 : Int) := by omega
      clear hx0
      subst hA
      by_cases hx1 : 0 ≤ x
      · by_cases hx2 : x < n1
        · have HI2 : Hid (outsK d2 n1 (k + 1) = true) := Lib.hid (by rw [outsK, ← HP.out, inB_t ⟨hx1, by omega⟩, HI.out]; rfl)
          clear HI
          go_wp2
          go_roundw
          case rel => exact ⟨k + 1, by omega, by go_num, HI2, HX, HB⟩
          case measure => simp [intOf] <;> omega
        · have HF : Hid ((outsK d2 n1 n2 && inB n2 1 16) = false) := Lib.hid (outs_no (outsK_bad (k := k) (by rw [outsK, ← HP.out, inB_f (by omega), Bool.and_false]) hlt))
          clear HI
          go_wp2
          go_ret
          exact ⟨ret_bool HF.out.symm, HB.out⟩
      · have HF : Hid ((outsK d2 n1 n2 && inB n2 1 16) = false) := Lib.hid (outs_no (outsK_bad (k := k) (by rw [outsK, ← HP.out, inB_f (by omega), Bool.and_false]) hlt))
        clear HI
        go_wp2
        go_ret
        exact ⟨ret_bool HF.out.symm, HB.out⟩
    · have hkn : k = n2 := by omega
      have HT : Hid (outsK d2 n1 n2 = true) := Lib.hid (by rw [← hkn]; exact HI.out)
      clear HI
      by_cases h5 : 1 ≤ n2
      · by_cases h6 : n2 ≤ 16
        · have HF : Hid ((outsK d2 n1 n2 && inB n2 1 16) = true) := Lib.hid (by rw [HT.out, inB_t ⟨by omega, by omega⟩]; rfl)
          have j0 : (1 : Int) ≤ (n2 : Int) := by omega
          have j1 : (n2 : Int) ≤ 16 := by omega
          go_wp2
          go_ret
          exact ⟨ret_bool HF.out.symm, HB.out⟩
        · have HF : Hid ((outsK d2 n1 n2 && inB n2 1 16) = false) := Lib.hid (by rw [HT.out, inB_f (by omega)]; rfl)
          have j0 : (1 : Int) ≤ (n2 : Int) := by omega
          have j1 : ¬ (n2 : Int) ≤ 16 := by omega
          go_wp2
          go_ret
          exact ⟨ret_bool HF.out.symm, HB.out⟩
      · have HF : Hid ((outsK d2 n1 n2 && inB n2 1 16) = false) := Lib.hid (by rw [HT.out, inB_f (by omega)]; rfl)
        have j0 : ¬ (1 : Int) ≤ (n2 : Int) := by omega
        go_wp2
        go_ret
        exact ⟨ret_bool HF.out.symm, HB.out⟩

def OwGI (w : World) (lo hi : Nat) (v : Value) (d : List (Int × Int × Int)) : Prop := ∃ A n c, v = .slice A n c ∧ Ow w lo hi 62 1 A n c (d.map gI)
theorem info_gate : (Try.prog.info? 62).map (fun i => (i.zero, i.size, i.bytes)) = some (some .nilIface, 1, 16) := by kernel_rfl
end Go.Proofs.Ytlagkinamnjnhaa
