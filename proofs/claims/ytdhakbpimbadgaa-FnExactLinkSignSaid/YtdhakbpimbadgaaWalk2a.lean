/- Chapter 2: what is a polynomial; its value at a number. -/
import Derived.Test.YtdhakbpimbadgaaBase
import Derived.Test.YtdhakbpimbadgaaRows
import Derived.Test.YtdhakbpimbadgaaMath2
import Derived.Test.YtdhakbpimbadgaaWalk1
import Derived.BigQuiet
import Derived.Deep.QuietTactic
namespace Go.Proofs.Ytdhakbpimbadgaa
open Go.RowKit

theorem mul_bd (a b : Int) (h1 : 0 ≤ a) (h2 : a ≤ 112) (h3 : 0 ≤ b) (h4 : b ≤ 112) : 0 ≤ a * b ∧ a * b ≤ 12544 :=
  ⟨Int.mul_nonneg h1 h3, by
    have := Int.mul_le_mul (a := a) (b := b) (c := 112) (d := 112) h2 h4 h3 (by omega)
    omega⟩
theorem ret_bool {a b : Bool} (h : a = b) : Ending.returned (.bool a) = .returned (.bool b) := by rw [h]

/-- a call that leaves the world alone, met in a region that draws -/
theorem quiet_any {P : Program} {f : FuncId} {args : Array Value} {w : World} {v : Value} (h : Calls P f args w fun e w' => e = .returned v ∧ w = w') : Calls P f args w fun e w'' => e = .returned v ∧ ∃ m, w'' = w.drewN m :=
  h.mono fun _ _ ⟨he, hm⟩ => ⟨he, 0, hm.symm⟩
theorem quiet_drewN {P : Program} {f : FuncId} {args : Array Value} {w : World} {a : Nat} {v : Value} (h : Calls P f args (w.drewN a) fun e w' => e = .returned v ∧ w.drewN a = w') : Calls P f args (w.drewN a) fun e w'' => e = .returned v ∧ ∃ m, w'' = w.drewN m :=
  h.mono fun _ _ ⟨he, hm⟩ => ⟨he, a, hm.symm⟩

set_option maxHeartbeats 400000 in
theorem i_plus (a b : Int) (w : World) (h1 : 0 ≤ a) (h2 : a ≤ 112) (h3 : 0 ≤ b) (h4 : b ≤ 112) :
    Calls Try.prog 104 #[.int .i64 a, .int .i64 b] w fun e w' => e = .returned (.int .i64 ((a + b) % 113)) ∧ w = w' := by
  go_enter Try.func104, Try.ntmps104
  go_wp2
  go_ret
  exact ⟨rfl, rfl⟩

set_option maxHeartbeats 400000 in
theorem i_minus (a b : Int) (w : World) (h1 : 0 ≤ a) (h2 : a ≤ 112) (h3 : 0 ≤ b) (h4 : b ≤ 112) :
    Calls Try.prog 90 #[.int .i64 a, .int .i64 b] w fun e w' => e = .returned (.int .i64 ((a - b) % 113)) ∧ w = w' := by
  have HR : Hid ((a + 113 - b) % 113 = (a - b) % 113) := Lib.hid (by omega)
  go_enter Try.func90, Try.ntmps90
  go_wp2
  go_ret
  exact ⟨ret_i HR.out, rfl⟩

set_option maxHeartbeats 400000 in
theorem i_times (a b : Int) (w : World) (h1 : 0 ≤ a) (h2 : a ≤ 112) (h3 : 0 ≤ b) (h4 : b ≤ 112) :
    Calls Try.prog 112 #[.int .i64 a, .int .i64 b] w fun e w' => e = .returned (.int .i64 (a * b % 113)) ∧ w = w' := by
  obtain ⟨k1, k2⟩ := mul_bd a b h1 h2 h3 h4
  go_enter Try.func112, Try.ntmps112
  go_wp2
  go_ret
  exact ⟨rfl, rfl⟩

set_option maxHeartbeats 400000 in
theorem s_l1Sub (a b : Int) (w : World) (h1 : 0 ≤ a) (h2 : a ≤ 112) (h3 : 0 ≤ b) (h4 : b ≤ 112) :
    Calls Try.prog 39 #[.int .i64 a, .int .i64 b] w fun e w' => e = .returned (.int .i64 ((a - b) % 113)) ∧ w = w' := by
  have HR : Hid ((a - b + 113) % 113 = (a - b) % 113) := Lib.hid (by omega)
  go_enter Try.func39, Try.ntmps39
  go_wp2
  go_ret
  exact ⟨ret_i HR.out, rfl⟩

set_option maxHeartbeats 400000 in
theorem s_l1In (A : Option Addr) (n c : Nat) (zs : List Int) (w : World) (h : Rd w w.heap.size 1 A n (cI zs)) (hn : n ≤ 1048576) :
    Calls Try.prog 37 #[.slice A n c] w fun e w' => e = .returned (.bool (numsB zs)) ∧ w = w' := by
  have hlen : Hid (zs.length = n) := Lib.hid (by have := h.1; rw [cI_length] at this; omega)
  have H := Lib.hid h
  clear h
  go_enter Try.func37, Try.ntmps37
  go_wp2
  go_loop [3] (fun i => ∃ k : Nat, k ≤ n ∧ i = .int .i64 k ∧ Hid (numsB (zs.take k) = true)) (fun i => n - (intOf i).toNat)
  case atStart => exact ⟨0, Nat.zero_le _, rfl, Lib.hid rfl⟩
  case round =>
    obtain ⟨k, hk, rfl, HI⟩ := hrel
    by_cases hlt : k < n
    · obtain ⟨a, z, rfl, hab, hck, HZ⟩ := H.out.intAt hlt
      have hkz : k < zs.length := by have := hlen.out; omega
      have HT := Lib.hid (numsB_take zs k hkz)
      have HBD := Lib.hid (numsB_bad zs k hkz)
      rw [← HZ.out] at HT HBD
      clear hkz
      cases hb : numB z
      · have HF := Lib.hid (HBD.out hb)
        go_wp2_with (first | (go_at_call 36; refine (s_NumOk _ _).mono ?_; rintro e w' ⟨rfl, rfl⟩) | go_in)
        go_ret
        exact ⟨ret_bool HF.out.symm, rfl⟩
      · have HI2 : Hid (numsB (zs.take (k + 1)) = true) := Lib.hid (by rw [HT.out, HI.out, hb]; rfl)
        clear HI
        go_wp2_with (first | (go_at_call 36; refine (s_NumOk _ _).mono ?_; rintro e w' ⟨rfl, rfl⟩) | go_in)
        go_round
        case rel => exact ⟨k + 1, by omega, by go_num, HI2⟩
        case measure => simp [intOf] <;> omega
    · have HF : Hid (true = numsB zs) := Lib.hid (by
        have := HI.out; rw [List.take_of_length_le (by have := hlen.out; omega)] at this; exact this.symm)
      clear HI
      go_wp2
      go_ret
      exact ⟨ret_bool HF.out, rfl⟩

set_option maxHeartbeats 400000 in
theorem i_numbersOk (A : Option Addr) (n c : Nat) (zs : List Int) (w : World) (h : Rd w w.heap.size 1 A n (cI zs)) (hn : n ≤ 1048576) :
    Calls Try.prog 88 #[.slice A n c] w fun e w' => e = .returned (.bool (numsB zs)) ∧ w = w' := by
  have hlen : Hid (zs.length = n) := Lib.hid (by have := h.1; rw [cI_length] at this; omega)
  have H := Lib.hid h
  clear h
  go_enter Try.func88, Try.ntmps88
  go_wp2
  go_loop [7] (fun i => ∃ k : Nat, k ≤ n ∧ i = .int .i64 k ∧ Hid (numsB (zs.take k) = true)) (fun i => n - (intOf i).toNat)
  case atStart => exact ⟨0, Nat.zero_le _, rfl, Lib.hid rfl⟩
  case round =>
    obtain ⟨k, hk, rfl, HI⟩ := hrel
    by_cases hlt : k < n
    · obtain ⟨a, z, rfl, hab, hck, HZ⟩ := H.out.intAt hlt
      have hkz : k < zs.length := by have := hlen.out; omega
      have HT := Lib.hid (numsB_take zs k hkz)
      have HBD := Lib.hid (numsB_bad zs k hkz)
      rw [← HZ.out] at HT HBD
      clear hkz
      cases hb : numB z
      · have HF := Lib.hid (HBD.out hb)
        go_wp2_with (first | (go_at_call 43; refine (i_NumOk _ _).mono ?_; rintro e w' ⟨rfl, rfl⟩) | go_in)
        go_ret
        exact ⟨ret_bool HF.out.symm, rfl⟩
      · have HI2 : Hid (numsB (zs.take (k + 1)) = true) := Lib.hid (by rw [HT.out, HI.out, hb]; rfl)
        clear HI
        go_wp2_with (first | (go_at_call 43; refine (i_NumOk _ _).mono ?_; rintro e w' ⟨rfl, rfl⟩) | go_in)
        go_round
        case rel => exact ⟨k + 1, by omega, by go_num, HI2⟩
        case measure => simp [intOf] <;> omega
    · have HF : Hid (true = numsB zs) := Lib.hid (by
        have := HI.out; rw [List.take_of_length_le (by have := hlen.out; omega)] at this; exact this.symm)
      clear HI
      go_wp2
      go_ret
      exact ⟨ret_bool HF.out, rfl⟩

end Go.Proofs.Ytdhakbpimbadgaa
