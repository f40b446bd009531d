/- Chapter 2: points that are good. -/
import Derived.Test.YtbnobkojkfmccaaMath2d
import Derived.Test.YtbnobkojkfmccaaPts
namespace Go.Proofs.Ytbnobkojkfmccaa
open Go.RowKit
set_option maxRecDepth 100000

theorem pxy {ps : List (Int × Int)} {k : Nat} {x y : Int} (h : ps.getD k (0, 0) = (x, y)) : px ps k = x ∧ py ps k = y := by simp only [px, py, h, and_self]
theorem ptsB_long {ps : List (Int × Int)} (h : ¬ ps.length ≤ 20) : ptsB ps = false := by simp [ptsB, h]
theorem ptsB_okK {ps : List (Int × Int)} (h : ps.length ≤ 20) : ptsB ps = okK ps ps.length := by simp [ptsB, h]
theorem okK_step (ps : List (Int × Int)) (k : Nat) : okK ps (k + 1) = (okK ps k && (numB (px ps k) && numB (py ps k)) && !(seenB ps k (px ps k))) := rfl

set_option maxHeartbeats 1000000 in
theorem s_l2Points (A : Option Addr) (n c : Nat) (ps : List (Int × Int)) (w : World) (h : Rd w w.heap.size 2 A n (cP ps)) (hn : n ≤ 1048576) :
    Calls Try.prog 75 #[.slice A n c] w fun e w' => e = .returned (.bool (ptsB ps)) ∧ Still w w' := by
  have hlen := Lib.hid h.plen
  have H := Lib.hid h
  clear h
  by_cases h20 : n ≤ 20
  · have HB : Hid (ptsB ps = okK ps n) := Lib.hid (by rw [ptsB_okK (by rw [hlen.out]; exact h20), hlen.out])
    go_enter Try.func75, Try.ntmps75
    go_wp2
    go_loopw [3, 4] (fun i _ wr => ∃ k : Nat, k ≤ n ∧ i = .int .i64 k ∧ Hid (okK ps k = true) ∧ Hid (Still w wr)) (fun i _ _ => n - (intOf i).toNat)
    case atStart => exact ⟨0, Nat.zero_le _, rfl, Lib.hid rfl, Lib.hid (Still.refl _)⟩
    case round =>
      obtain ⟨k, hk, rfl, HK, HS⟩ := hrel
      by_cases hlt : k < n
      · obtain ⟨a, x, y, rfl, hab, hx0, hy0, HP⟩ := H.out.ptAt hlt
        have hx := (HS.out.cell (a.add (k * 2))).trans hx0
        have hy := (HS.out.cell ⟨(a.add (k * 2)).block, (a.add (k * 2)).off + 1, none⟩).trans hy0
        have HXY := Lib.hid (pxy HP.out)
        clear hy0
        have Hx0 := Lib.hid hx0
        clear hx0
        cases hbx : numB x
        · have HF : Hid (false = ptsB ps) := Lib.hid (by
            rw [HB.out, okK_bad (k := k) (by rw [okK_step, HXY.out.1, hbx]; simp) hlt])
          go_wp2_with (first | (go_at_call 74; refine (s_NumOk _ _).mono ?_; rintro e w' ⟨rfl, rfl⟩) | go_in)
          go_ret
          exact ⟨ret_bool HF.out, HS.out⟩
        · cases hby : numB y
          · have HF : Hid (false = ptsB ps) := Lib.hid (by
              rw [HB.out, okK_bad (k := k) (by rw [okK_step, HXY.out.2, hby]; simp) hlt])
            go_wp2_with (first | (go_at_call 74; refine (s_NumOk _ _).mono ?_; rintro e w' ⟨rfl, rfl⟩) | go_in)
            go_ret
            exact ⟨ret_bool HF.out, HS.out⟩
          · have HN := Lib.hid (And.intro hbx hby)
            obtain ⟨wo, rfl⟩ : ∃ wo : World, wo = wr := ⟨_, rfl⟩
            go_wp2_with (first | (go_at_call 74; refine (s_NumOk _ _).mono ?_; rintro e w' ⟨rfl, rfl⟩) | go_in)
            clear hbx hby hx hy
            go_loopw [4] (fun j wr => ∃ m : Nat, m ≤ k ∧ j = .int .i64 m ∧ Hid (seenB ps m x = false) ∧ Hid (Still w wr)) (fun j _ => k - (intOf j).toNat)
            case atStart => exact ⟨0, Nat.zero_le _, rfl, Lib.hid rfl, HS⟩
            case round =>
              clear HS
              obtain ⟨m, hm, rfl, HM, HS⟩ := hrel
              by_cases hlt2 : m < k
              · obtain ⟨a2, x', y', ha2, hab2, hx0', _, HP'⟩ := H.out.ptAt (show m < n by omega)
                obtain rfl : a = a2 := by injection ha2
                have hx := (HS.out.cell (a.add (k * 2))).trans Hx0.out
                have hx' := (HS.out.cell (a.add (m * 2))).trans hx0'
                have HX' := Lib.hid (pxy HP'.out).1
                clear hx0' ha2 HP'
                have i0 : (0 : Int) ≤ (k : Int) := by omega
                have i1 : (k : Int) < (n : Int) := by omega
                have i2 : (0 : Int) ≤ (m : Int) := by omega
                have i3 : (m : Int) < (n : Int) := by omega
                by_cases he : x = x'
                · have hb : (x == x') = true := by rw [he]; simp
                  have HF : Hid (false = ptsB ps) := Lib.hid (by
                    have hs : seenB ps k (px ps k) = true := (seenB_iff _ _ _).2 ⟨m, hlt2, by rw [HX'.out, HXY.out.1, he]⟩
                    rw [HB.out, okK_bad (k := k) (by rw [okK_step, hs]; simp) hlt])
                  clear he
                  go_wp2
                  go_quiet (fail)
                  go_wp2
                  go_ret
                  exact ⟨ret_bool HF.out, HS.out.drewN _⟩
                · have hb : (x == x') = false := by rw [beq_eq_false_iff_ne]; exact he
                  have HM2 : Hid (seenB ps (m + 1) x = false) := Lib.hid (by rw [seenB_succ, HM.out, HX'.out, Bool.false_or, beq_eq_false_iff_ne]; exact fun e => he e.symm)
                  clear he
                  go_wp2
                  go_quiet (fail)
                  go_wp2
                  go_roundw
                  case rel => exact ⟨m + 1, by omega, by go_num, HM2, Lib.hid (HS.out.drewN _)⟩
                  case measure => simp [intOf] <;> omega
              · have HK2 : Hid (okK ps (k + 1) = true) := Lib.hid (by
                  have := HM.out; rw [show m = k by omega] at this
                  rw [okK_step, HK.out, HXY.out.1, HXY.out.2, HN.out.1, HN.out.2, this]; rfl)
                go_wp2
                go_roundw
                case rel => exact ⟨k + 1, by omega, by go_num, HK2, HS⟩
                case measure => simp [intOf] <;> omega
      · have HF : Hid (true = ptsB ps) := Lib.hid (by rw [HB.out, ← HK.out, show k = n by omega])
        go_wp2
        go_ret
        exact ⟨ret_bool HF.out, HS.out⟩
  · have HF : Hid (false = ptsB ps) := Lib.hid (ptsB_long (by rw [hlen.out]; exact h20)).symm
    go_enter Try.func75, Try.ntmps75
    go_wp2
    go_ret
    exact ⟨ret_bool HF.out, Still.refl _⟩
end Go.Proofs.Ytbnobkojkfmccaa
