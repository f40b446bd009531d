/- Chapter 5: SharesWrong of both. -/
import Derived.Test.YtjpjmlcmaombnaaWalk6a
namespace Go.Proofs.Ytjpjmlcmaombnaa
open Go.RowKit
set_option maxRecDepth 100000

def wrongB (p : List Int) (ps : List (Int × Int)) : Bool := polyB p && numK ps ps.length
def wrongI (p : List Int) (ps : List (Int × Int)) : Int := if wrongB p ps = true then ((wrK p ps ps.length).length : Int) else -1
theorem wrongI_no {p : List Int} {ps : List (Int × Int)} (h : wrongB p ps = false) : wrongI p ps = -1 := by unfold wrongI; rw [h]; rfl
theorem numK_XIn {ps : List (Int × Int)} {n : Nat} (h : numK ps n = true) : XIn ps n := fun _ hk => (numK_at h hk).1

set_option maxHeartbeats 1000000 in
theorem X_s_SharesWrong (v v' : Value) (a : List Int) (b : List (Int × Int)) (w : World) (h : RdIntS w w.heap.size v a) (h' : RdPointS w w.heap.size v' b) (hs : szIntS a ≤ 1048576) (hs' : szPointS b ≤ 1048576) :
    Calls Try.prog 31 #[v, v'] w fun e w' => e = .returned (.int .i64 (wrongI a b)) ∧ Below w.heap.size w w' := by
  obtain ⟨A, n, c, rfl, _, r⟩ := h
  obtain ⟨A', m, c', rfl, _, r'⟩ := h'
  have hn : n ≤ 1048576 := by have := r.len; unfold szIntS at hs; omega
  have hm : m ≤ 1048576 := by have := r'.plen; unfold szPointS at hs'; omega
  have hl := Lib.hid r'.plen
  have H := Lib.hid r
  have H' := Lib.hid r'
  clear r r' hs hs'
  cases hp : polyB a
  · have HF := Lib.hid (wrongI_no (p := a) (ps := b) (by unfold wrongB; rw [hp]; rfl))
    go_enter Try.func31, Try.ntmps31
    go_wp2_with fail
    refine (s_PolyOk _ _ _ _ _ H.out hn).mono ?_
    rintro e w1 ⟨rfl, rfl⟩
    rw [hp]
    go_wp2
    go_ret
    exact ⟨ret_i HF.out.symm, Below.refl _ _⟩
  · cases hk : numK b m
    · have HF := Lib.hid (wrongI_no (p := a) (ps := b) (by unfold wrongB; rw [hl.out, hp, hk]; rfl))
      go_enter Try.func31, Try.ntmps31
      go_wp2_with fail
      refine (s_PolyOk _ _ _ _ _ H.out hn).mono ?_
      rintro e w1 ⟨rfl, rfl⟩
      rw [hp]
      go_wp2_with fail
      refine (s_l4Points _ _ _ _ _ H'.out hm).mono ?_
      rintro e w1 ⟨rfl, rfl⟩
      rw [hk]
      go_wp2
      go_ret
      exact ⟨ret_i HF.out.symm, Below.refl _ _⟩
    · have HF : Hid (((wrK a b m).length : Int) = wrongI a b) := Lib.hid (by unfold wrongI; rw [if_pos (by unfold wrongB; rw [hl.out, hp, hk]; rfl), hl.out])
      have HX := Lib.hid (numK_XIn hk)
      have HNU := Lib.hid (polyB_nums hp)
      go_enter Try.func31, Try.ntmps31
      go_wp2_with fail
      refine (s_PolyOk _ _ _ _ _ H.out hn).mono ?_
      rintro e w1 ⟨rfl, rfl⟩
      rw [hp]
      go_wp2_with fail
      refine (s_l4Points _ _ _ _ _ H'.out hm).mono ?_
      rintro e w1 ⟨rfl, rfl⟩
      rw [hk]
      go_wp2_with fail
      refine (s_l5Wrong _ _ _ _ _ _ _ _ _ H.out HNU.out hn H'.out HX.out hm).mono ?_
      rintro e w1 ⟨v, rfl, ho, hb⟩
      obtain ⟨A1, n1, c1, rfl, hn1, _, _⟩ := ho.open
      have HB := Lib.hid hb
      have HE : Hid ((n1 : Int) = wrongI a b) := Lib.hid (by rw [hn1, HF.out])
      clear ho hb hn1
      go_wp2
      go_ret
      exact ⟨ret_i HE.out, HB.out⟩

set_option maxHeartbeats 1000000 in
theorem X_i_SharesWrong (v v' : Value) (a : List Int) (b : List (Int × Int)) (w : World) (h : RdIntS w w.heap.size v a) (h' : RdPointS w w.heap.size v' b) (hs : szIntS a ≤ 1048576) (hs' : szPointS b ≤ 1048576) :
    Calls Try.prog 33 #[v, v'] w fun e w' => e = .returned (.int .i64 (wrongI a b)) ∧ Below w.heap.size w w' := by
  obtain ⟨A, n, c, rfl, _, r⟩ := h
  obtain ⟨A', m, c', rfl, _, r'⟩ := h'
  have hn : n ≤ 1048576 := by have := r.len; unfold szIntS at hs; omega
  have hm : m ≤ 1048576 := by have := r'.plen; unfold szPointS at hs'; omega
  have hl := Lib.hid r'.plen
  have H := Lib.hid r
  have H' := Lib.hid r'
  clear r r' hs hs'
  cases hp : polyB a
  · have HF := Lib.hid (wrongI_no (p := a) (ps := b) (by unfold wrongB; rw [hp]; rfl))
    go_enter Try.func33, Try.ntmps33
    go_wp2_with fail
    refine (i_PolyOk _ _ _ _ _ H.out hn).mono ?_
    rintro e w1 ⟨rfl, rfl⟩
    rw [hp]
    go_wp2
    go_ret
    exact ⟨ret_i HF.out.symm, Below.refl _ _⟩
  · cases hk : numK b m
    · have HF := Lib.hid (wrongI_no (p := a) (ps := b) (by unfold wrongB; rw [hl.out, hp, hk]; rfl))
      go_enter Try.func33, Try.ntmps33
      go_wp2_with fail
      refine (i_PolyOk _ _ _ _ _ H.out hn).mono ?_
      rintro e w1 ⟨rfl, rfl⟩
      rw [hp]
      go_wp2_with fail
      refine (i_pointsOfNumbers _ _ _ _ _ H'.out hm).mono ?_
      rintro e w1 ⟨rfl, hb⟩
      have HB := Lib.hid hb
      clear hb
      rw [hk]
      go_wp2
      go_ret
      exact ⟨ret_i HF.out.symm, HB.out⟩
    · have HF : Hid (((wrK a b m).length : Int) = wrongI a b) := Lib.hid (by unfold wrongI; rw [if_pos (by unfold wrongB; rw [hl.out, hp, hk]; rfl), hl.out])
      have HX := Lib.hid (numK_XIn hk)
      have HNU := Lib.hid (polyB_nums hp)
      go_enter Try.func33, Try.ntmps33
      go_wp2_with fail
      refine (i_PolyOk _ _ _ _ _ H.out hn).mono ?_
      rintro e w1 ⟨rfl, rfl⟩
      rw [hp]
      go_wp2_with fail
      refine (i_pointsOfNumbers _ _ _ _ _ H'.out hm).mono ?_
      rintro e w1 ⟨rfl, hb0⟩
      have HB0 := Lib.hid hb0
      clear hb0
      rw [hk]
      have hz := HB0.out.size
      go_wp2_with fail
      refine (i_differing _ _ _ _ _ _ _ _ _ ((H.out.below HB0.out).more hz) HNU.out hn ((H'.out.below HB0.out).more hz) HX.out hm).mono ?_
      rintro e w2 ⟨v, rfl, ho, hb⟩
      obtain ⟨A1, n1, c1, rfl, hn1, _, _⟩ := ho.open
      have HB := Lib.hid (HB0.out.trans (hb.mono hz))
      have HE : Hid ((n1 : Int) = wrongI a b) := Lib.hid (by rw [hn1, HF.out])
      clear ho hb hn1
      go_wp2
      go_ret
      exact ⟨ret_i HE.out, HB.out⟩
end Go.Proofs.Ytjpjmlcmaombnaa
