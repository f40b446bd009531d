/- Chapter 7: what fits what was published: elementsOk, fitting; ShareCheck of both. -/
import Derived.Test.YtjpjmlcmaombnaaWalk7d
import Derived.Test.YtjpjmlcmaombnaaWalk1b
namespace Go.Proofs.Ytjpjmlcmaombnaa
open Go.RowKit
set_option maxRecDepth 100000

def elsB (zs : List Int) : Bool := zs.all elB
theorem elsB_bad (zs : List Int) (k : Nat) (hk : k < zs.length) (h : elB (zs.getD k 0) = false) : elsB zs = false := by
  apply Bool.eq_false_iff.2
  intro ht
  unfold elsB at ht
  rw [List.all_eq_true] at ht
  have := ht _ (List.getElem_mem hk)
  rw [← getD_of zs k hk, h] at this; cases this
theorem elsB_take (zs : List Int) (k : Nat) (hk : k < zs.length) : elsB (zs.take (k + 1)) = (elsB (zs.take k) && elB (zs.getD k 0)) := by
  unfold elsB
  rw [take_snocD _ _ hk, List.all_append]; simp
theorem elsB_all (zs : List Int) : elsB (zs.take zs.length) = elsB zs := by rw [List.take_length]
theorem elsB_at {zs : List Int} (h : elsB zs = true) {k : Nat} (hk : k < zs.length) : 1 ≤ zs.getD k 0 ∧ zs.getD k 0 ≤ 226 := by
  unfold elsB at h
  rw [List.all_eq_true] at h
  have := h _ (List.getElem_mem hk)
  rw [← getD_of zs k hk] at this
  exact elB_range this

set_option maxHeartbeats 400000 in
theorem i_elementsOk (A : Option Addr) (n c : Nat) (zs : List Int) (w : World) (h : Rd w w.heap.size 1 A n (cI zs)) (hn : n ≤ 1048576) :
    Calls Try.prog 92 #[.slice A n c] w fun e w' => e = .returned (.bool (elsB zs)) ∧ w = w' := by
  have hlen : Hid (zs.length = n) := Lib.hid h.len
  have H := Lib.hid h
  clear h
  go_enter Try.func92, Try.ntmps92
  go_wp2
  go_loop [7] (fun i => ∃ k : Nat, k ≤ n ∧ i = .int .i64 k ∧ Hid (elsB (zs.take k) = true)) (fun i => n - (intOf i).toNat)
  case atStart => exact ⟨0, Nat.zero_le _, rfl, Lib.hid rfl⟩
  case round =>
    obtain ⟨k, hk, rfl, HK⟩ := hrel
    by_cases hlt : k < n
    · obtain ⟨a, z, rfl, hab, hc, HZ⟩ := H.out.intAt hlt
      cases hb : elB z
      · have HF : Hid (false = elsB zs) := Lib.hid (elsB_bad zs k (by have := hlen.out; omega) (by rw [← HZ.out, hb])).symm
        go_wp2_with fail
        refine (i_ElementOk _ _).mono ?_
        rintro e w' ⟨rfl, rfl⟩
        rw [hb]
        go_wp2
        go_ret
        exact ⟨ret_bool HF.out, rfl⟩
      · have HK2 : Hid (elsB (zs.take (k + 1)) = true) := Lib.hid (by rw [elsB_take zs k (by have := hlen.out; omega), HK.out, ← HZ.out, hb]; rfl)
        clear HK
        go_wp2_with fail
        refine (i_ElementOk _ _).mono ?_
        rintro e w' ⟨rfl, rfl⟩
        rw [hb]
        go_wp2
        go_round
        case rel => exact ⟨k + 1, by omega, by go_num, HK2⟩
        case measure => simp [intOf] <;> omega
    · have HF : Hid (true = elsB zs) := Lib.hid (by rw [← elsB_all, ← HK.out, hlen.out, show k = n by omega])
      go_wp2
      go_ret
      exact ⟨ret_bool HF.out, rfl⟩

/-- the product and the exponent after k elements -/
def fitW (pub : List Int) (x : Int) : Nat → Int × Int
  | 0 => (1, 1)
  | k + 1 => ((fitW pub x k).1 * powI (pub.getD k 0) (fitW pub x k).2 227 % 227, (fitW pub x k).2 * x % 113)
theorem fitW_bd (pub : List Int) (x : Int) (k : Nat) : (0 ≤ (fitW pub x k).1 ∧ (fitW pub x k).1 ≤ 226) ∧ 0 ≤ (fitW pub x k).2 ∧ (fitW pub x k).2 ≤ 112 := by
  cases k with
  | zero => simp [fitW]
  | succ k => simp only [fitW]; omega

set_option maxHeartbeats 2000000 in
theorem i_fitting (b : Nat) (A : Option Addr) (n c hi : Nat) (zs : List Int) (x : Int) (w : World) (hp : PM w b) (h : Rd w hi 1 A n (cI zs)) (hhi : hi ≤ b) (hE : elsB zs = true) (hn : n ≤ 1048576) (x0 : 0 ≤ x) (x1 : x ≤ 112) :
    Calls Try.prog 93 #[.map (some b), .slice A n c, .int .i64 x] w fun e w' => e = .returned (.int .i64 (fitW zs x n).1) ∧ PM w' b ∧ Kept b (b + 1) w w' := by
  have hlen : Hid (zs.length = n) := Lib.hid h.len
  have H := Lib.hid h
  have HE := Lib.hid hE
  have HP0 := Lib.hid hp
  have HK0 := Lib.hid (Kept.refl b (b + 1) w)
  have hbw := hp.lt
  clear h hE hp
  go_enter Try.func93, Try.ntmps93
  go_wp2
  go_loopw [7, 8, 13] (fun p e i wr => ∃ (k : Nat) (P E : Int), k ≤ n ∧ 0 ≤ P ∧ P ≤ 226 ∧ 0 ≤ E ∧ E ≤ 112 ∧ p = .int .i64 P ∧ e = .int .i64 E ∧ i = .int .i64 k ∧ Hid (P = (fitW zs x k).1 ∧ E = (fitW zs x k).2) ∧ Hid (PM wr b) ∧ Hid (Kept b (b + 1) w wr)) (fun _ _ i _ => n - (intOf i).toNat)
  case atStart => exact ⟨0, 1, 1, Nat.zero_le _, by omega, by omega, by omega, by omega, rfl, rfl, rfl, Lib.hid ⟨rfl, rfl⟩, HP0, HK0⟩
  case round =>
    clear HP0 HK0
    obtain ⟨k, P, E, hk, p0, p1, e0, e1, rfl, rfl, rfl, HI, HP, HK⟩ := hrel
    by_cases hlt : k < n
    · obtain ⟨a, z, rfl, hab, hc0, HZ⟩ := H.out.intAt hlt
      have hc := (HK.out.cellAt (p := a.add k) (by rw [add_block]; omega) (by rw [add_block]; omega)).trans hc0
      clear hc0
      have hz := elsB_at HE.out (k := k) (by have := hlen.out; omega)
      rw [← HZ.out] at hz
      obtain ⟨z0, z1⟩ := hz
      obtain ⟨q0, q1⟩ := powI_bd z E
      have HI2 : Hid (P * powI z E 227 % 227 = (fitW zs x (k + 1)).1 ∧ E * x % 113 = (fitW zs x (k + 1)).2) := Lib.hid (by
        simp only [fitW]; rw [← HI.out.1, ← HI.out.2, HZ.out]; exact ⟨rfl, rfl⟩)
      clear HI
      go_wp2_with fail
      refine (i_of b z E _ HP.out (by omega) z1 e0 e1).mono ?_
      rintro e w2 ⟨rfl, hp2, hk2⟩
      have HP2 := Lib.hid hp2
      have HK2 := Lib.hid (HK.out.trans hk2)
      clear hp2 hk2 HP HK
      go_wp2_with (first
        | (go_at_call 113; refine (i_el_times _ _ _ p0 p1 q0 q1).mono ?_; rintro e w' ⟨rfl, rfl⟩)
        | (go_at_call 84; refine (i_times _ _ _ e0 e1 x0 x1).mono ?_; rintro e w' ⟨rfl, rfl⟩))
      go_roundw
      case rel => exact ⟨k + 1, P * powI z E 227 % 227, E * x % 113, by omega, by omega, by omega, by omega, by omega, rfl, rfl, by go_num, HI2, HP2, HK2⟩
      case measure => simp [intOf] <;> omega
    · obtain rfl : n = k := by omega
      have HR : Hid (P = (fitW zs x n).1) := Lib.hid HI.out.1
      go_wp2
      go_ret
      exact ⟨ret_i HR.out, HP.out, HK.out⟩
end Go.Proofs.Ytjpjmlcmaombnaa
