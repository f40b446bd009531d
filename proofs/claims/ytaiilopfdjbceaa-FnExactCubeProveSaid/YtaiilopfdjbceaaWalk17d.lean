/- Chapter 17: CubeProve of the model. Made by tools/gen17/d.py. -/
import Derived.Test.YtaiilopfdjbceaaWalk17b
import Derived.Test.YtaiilopfdjbceaaWalk5h
import Derived.Deep.AppendLies
namespace Go.Proofs.Ytaiilopfdjbceaa
open Go.RowKit
set_option maxRecDepth 100000

/-- a list that is read, and whose block is no block of points of the call's own -/
def RdS (w : World) (lo : Nat) (A : Option Addr) (q : Nat) (zs : List Int) : Prop :=
  Rd w w.heap.size 1 A q (cI zs) ∧ ∃ a : Addr, A = some a ∧ a.block < w.heap.size ∧ (a.block < lo ∨ ∃ cs, w.heap[a.block]? = some (.cells cs 3 (0, 0)))
theorem RdS.old {w : World} {lo q : Nat} {A : Option Addr} {zs : List Int} (h : Rd w lo 1 A q (cI zs)) (hq : 0 < q) (hl : lo ≤ w.heap.size) : RdS w lo A q zs := by
  obtain ⟨a, e, hb, _⟩ := h.2 hq
  exact ⟨h.more hl, a, e, by omega, .inl hb⟩
theorem RdS.own {w : World} {lo B q c : Nat} {A : Option Addr} {zs : List Int} (h : OwIntS w B w.heap.size (.slice A q c) zs) (hq : 0 < q) : RdS w lo A q zs := by
  have hr := h.rd2
  obtain ⟨_, A1, n1, c1, e, r⟩ := h
  injection e with e1 e2 e3; subst e1; subst e2; subst e3
  obtain ⟨g, cs, rfl, _, h2, hb, _⟩ := r.lt hq
  exact ⟨hr, _, rfl, h2, .inr ⟨cs, hb⟩⟩
theorem RdS.below {w w' : World} {lo q : Nat} {A : Option Addr} {zs : List Int} (h : RdS w lo A q zs) (hb : Below w.heap.size w w') : RdS w' lo A q zs := by
  obtain ⟨r, a, e, h1, h2⟩ := h
  refine ⟨(r.below hb).more hb.size, a, e, Nat.lt_of_lt_of_le h1 hb.size, ?_⟩
  rcases h2 with h2 | ⟨cs, h2⟩
  · exact .inl h2
  · exact .inr ⟨cs, (hb.block _ h1).trans h2⟩
theorem own_apart2 {w : World} {B e t n s g : Nat} {v : Value} {xs : List Value} {cs : Array Value} (h : w.ownsRow B e s v n xs) (hte : e ≠ t) (hg : w.heap[g]? = some (.cells cs t (0, 0))) : v.ownBlock ≠ some g := by
  intro hv
  rcases h.2 with ⟨rfl, h0⟩ | ⟨g', cap, cur, rfl, _, hh, _⟩
  · simp [Value.ownBlock] at hv
  · simp only [Value.ownBlock, Option.some.injEq] at hv
    subst hv
    rw [hh] at hg
    injection hg with hg; injection hg with _ ht _
    exact hte ht
theorem RdS.grown {w w' : World} {lo q k e s : Nat} {A : Option Addr} {zs : List Int} {v : Value} {xs : List Value} (h : RdS w lo A q zs) (ho : w.ownsRow lo e s v k xs) (he : e ≠ 3) (hg : w.grownBy w' v.ownBlock) : RdS w' lo A q zs := by
  obtain ⟨r, a, e1, h1, h2⟩ := h
  have hne : v.ownBlock ≠ some a.block := by
    rcases h2 with h2 | ⟨cs, h2⟩
    · intro hv; have := (ho.lt _ hv).1; omega
    · exact own_apart2 ho he h2
  have hbk : w'.heap[a.block]? = w.heap[a.block]? := hg.block _ h1 (fun h' => hne h'.symm)
  refine ⟨⟨r.1, fun hq => ?_⟩, a, e1, Nat.lt_of_lt_of_le h1 hg.size, ?_⟩
  · obtain ⟨a2, e2, _, hc⟩ := r.2 hq
    rw [e1] at e2; injection e2 with e2; subst e2
    refine ⟨a, e1, Nat.lt_of_lt_of_le h1 hg.size, fun j u hu => ?_⟩
    rw [← hc j u hu]
    exact World.grownBy.cell_far hg _ (by rw [add_block]; exact h1) (by rw [add_block]; exact fun h' => hne h'.symm)
  · rcases h2 with h2 | ⟨cs, h2⟩
    · exact .inl h2
    · exact .inr ⟨cs, hbk.trans h2⟩
def R_CubeProve_1 (d x : List Int) : Bool := fitB d x
def R_CubeProve_0 (d x : List Int) : List (Int × Int) := if fitB d x = true then uptoF (provF d x) x.length else []
theorem cubeProve_no {d x : List Int} (h : fitB d x = false) : Hid (R_CubeProve_1 d x = false ∧ R_CubeProve_0 d x = []) := Lib.hid ⟨h, by unfold R_CubeProve_0; rw [h]; rfl⟩
set_option maxHeartbeats 4000000 in
theorem X_s_CubeProve (v v' : Value) (d x : List Int) (w : World) (h : RdIntS w w.heap.size v d) (h' : RdIntS w w.heap.size v' x) (hs : szIntS d ≤ 1048576) (hs' : szIntS x ≤ 1048576) :
    Calls Try.prog 21 #[v, v'] w fun e w' => ∃ g, e = .returned (.tuple #[g, .bool (R_CubeProve_1 d x)]) ∧ OwPointS w' w.heap.size w'.heap.size g (R_CubeProve_0 d x) ∧ Below w.heap.size w w' := by
  obtain ⟨A, n, c, rfl, _, r⟩ := h
  obtain ⟨A', n', c', rfl, _, r'⟩ := h'
  have hn : n ≤ 1048576 := by have := r.len; unfold szIntS at hs; omega
  have hn' : n' ≤ 1048576 := by have := r'.len; unfold szIntS at hs'; omega
  have hl := Lib.hid r.len
  have hl' := Lib.hid r'.len
  have H := Lib.hid r
  have H' := Lib.hid r'
  clear r r' hs hs'
  cases hb : cubeB d
  · have HF := cubeProve_no (d := d) (x := x) (by unfold fitB; rw [hb]; rfl)
    go_enter Try.func21, Try.ntmps21
    go_wp2_with fail
    refine (s_CubeOk _ _ _ _ _ H.out hn).mono ?_
    rintro e w' ⟨rfl, rfl⟩
    rw [hb]
    go_wp2
    go_ret2
    refine ⟨_, ret_vb HF.out.1.symm, ?_, Below.refl _ _⟩
    rw [HF.out.2]; exact OwPointS.nil_ _ _ _
  · have HV := fun W => Lib.hid (s_l17Bits A n c d W hl.out hb)
    obtain ⟨B, hB⟩ : ∃ B, Hid (bitsK n = B) := ⟨_, Lib.hid rfl⟩
    rw [hB.out] at HV
    by_cases hnb : n' = B
    · have e1 : (n' : Int) = (B : Int) := by omega
      have e2 : ((n' : Int) != (B : Int)) = false := by simp [e1]
      cases hx : numsB x
      · have HF := cubeProve_no (d := d) (x := x) (by unfold fitB; rw [hb, hx]; simp)
        clear hnb e1
        go_enter Try.func21, Try.ntmps21
        go_wp2_with fail
        refine (s_CubeOk _ _ _ _ _ H.out hn).mono ?_
        rintro e w' ⟨rfl, rfl⟩
        rw [hb]
        go_wp2_with fail
        refine (HV _).out.mono ?_
        rintro e w' ⟨rfl, rfl⟩
        go_wp2_with fail
        refine (s_l1In _ _ _ _ _ H'.out hn').mono ?_
        rintro e w' ⟨rfl, rfl⟩
        rw [hx]
        go_wp2
        go_ret2
        refine ⟨_, ret_vb HF.out.1.symm, ?_, Below.refl _ _⟩
        rw [HF.out.2]; exact OwPointS.nil_ _ _ _
      · have hfit : fitB d x = true := fitB_iff.2 ⟨hb, by rw [hl.out, hl'.out, hB.out, hnb], hx⟩
        have HF : Hid (R_CubeProve_1 d x = true ∧ R_CubeProve_0 d x = uptoF (provF d x) n') := Lib.hid ⟨hfit, by unfold R_CubeProve_0; rw [if_pos hfit, hl'.out]⟩
        obtain ⟨c1, c2, c3⟩ := cube_bits hb
        have HZ2 : Hid (d.length = 2 ^ n') := Lib.hid (by rw [hnb, ← hB.out, ← hl.out]; exact c1)
        have hn3 : n' ≤ 3 := by rw [hnb, ← hB.out, ← hl.out]; exact c3
        have hn8 : n ≤ 8 := by have := (cubeB_iff.1 hb).1; rw [hl.out] at this; omega
        have hn1 : 0 < n := by have := (cubeB_iff.1 hb).1; rw [hl.out] at this; omega
        have HN := Lib.hid (cubeB_nums hb)
        have HXN := Lib.hid (nums_of_B hx)
        clear hnb e1 hfit c1 c2 c3
        go_enter Try.func21, Try.ntmps21
        go_wp2_with fail
        refine (s_CubeOk _ _ _ _ _ H.out hn).mono ?_
        rintro e w' ⟨rfl, rfl⟩
        rw [hb]
        go_wp2_with fail
        refine (HV _).out.mono ?_
        rintro e w' ⟨rfl, rfl⟩
        go_wp2_with fail
        refine (s_l1In _ _ _ _ _ H'.out hn').mono ?_
        rintro e w' ⟨rfl, rfl⟩
        rw [hx]
        clear hb hx
        have H0 : Hid ((w.alloc (.cells #[] 44)).ownsRow w.heap.size 44 2 (.slice (some ⟨w.heap.size, 0, none⟩) 0 0) 0 (cP (uptoF (provF d x) 0))) := Lib.hid (own_empty w _ 2)
        have HB0 : Hid (Below w.heap.size w (w.alloc (.cells #[] 44))) := Lib.hid ((Below.refl _ _).alloc (Nat.le_refl _) _)
        have HR0 : Hid (RdS (w.alloc (.cells #[] 44)) w.heap.size A n (foldsL d (x.take 0))) := Lib.hid (RdS.old (H.out.below HB0.out) hn1 HB0.out.size)
        go_wp2
        go_loopw [0, 6, 7] (fun cu out i wr => ∃ (k q cc co : Nat) (Ac Ao : Option Addr), k ≤ n' ∧ i = .int .i64 k ∧ cu = .slice Ac q cc ∧ out = .slice Ao k co ∧ q ≤ 8 ∧ Hid (RdS wr w.heap.size Ac q (foldsL d (x.take k))) ∧ Hid (wr.ownsRow w.heap.size 44 2 (.slice Ao k co) k (cP (uptoF (provF d x) k))) ∧ Hid (Below w.heap.size w wr)) (fun _ _ i _ => n' - (intOf i).toNat)
        case atStart => exact ⟨0, n, c, 0, A, _, Nat.zero_le _, rfl, rfl, rfl, hn8, HR0, H0, HB0⟩
        case round =>
          clear HR0 H0 HB0
          obtain ⟨k, q, cc, co, Ac, Ao, hk, rfl, rfl, rfl, hq8, HC, HO, HB⟩ := hrel
          by_cases hlt : k < n'
          · obtain ⟨ax, t, rfl, hax, hx0, HX⟩ := H'.out.intAt hlt
            have HX0 := Lib.hid hx0
            have x0 : 0 ≤ t := by rw [HX.out]; exact (HXN.out _).1
            have x1 : t ≤ 112 := by rw [HX.out]; exact (HXN.out _).2
            have HQL := HC.out.1.len
            have hq1 : 0 < q := by rw [← HQL, foldsL_length d (x.take k) n' HZ2.out (by rw [List.length_take]; omega)]; exact Nat.pow_pos (by omega)
            have HLH := len_half (k := k) HZ2.out hl'.out hlt
            have HST : Hid (foldsL d (x.take (k + 1)) = foldL (foldsL d (x.take k)) t (q / 2)) := Lib.hid (by rw [foldsL_take _ _ _ (by have := hl'.out; omega), ← HX.out, HQL])
            have HNC : Hid (Nums (foldsL d (x.take k))) := Lib.hid (foldsL_nums HN.out _)
            rw [HQL] at HLH
            have HQ : Hid (q = 2 * (q / 2)) := Lib.hid HLH.1
            have HPR : Hid (provF d x k = (evK (foldsL d (x.take k)) (q / 2), odK (foldsL d (x.take k)) (q / 2))) := Lib.hid (by unfold provF endsP; rw [HQL])
            obtain ⟨q2, hq2⟩ : ∃ q2, Hid (q / 2 = q2) := ⟨_, Lib.hid rfl⟩
            rw [hq2.out] at HST HQ HPR
            have hq28 : q2 ≤ 8 := by rw [← hq2.out]; omega
            obtain ⟨zc, hzc⟩ : ∃ zc, Hid (foldsL d (x.take k) = zc) := ⟨_, Lib.hid rfl⟩
            rw [hzc.out] at HST HNC HPR HC
            obtain ⟨p0, hp0⟩ : ∃ p, Hid (evK zc q2 = p) := ⟨_, Lib.hid rfl⟩
            obtain ⟨p1, hp1⟩ : ∃ p, Hid (odK zc q2 = p) := ⟨_, Lib.hid rfl⟩
            have HRD := Lib.hid (s_l17Round Ac q cc q2 zc wr HC.out.1 HQ.out HNC.out hq8)
            rw [hp0.out, hp1.out] at HRD HPR
            clear HLH HQL HX hx0 hq2 hzc hp0 hp1
            go_wp2_with fail
            refine HRD.out.mono ?_
            rintro e w2 ⟨rfl, hb2⟩
            have HB2 : Hid (Below w.heap.size w w2) := Lib.hid (HB.out.trans (hb2.mono HB.out.size))
            have hzw := HB2.out.size
            have HC2 : Hid (RdS (w2.alloc (.cells #[.int .i64 p0, .int .i64 p1] 44)) w.heap.size Ac q zc) := Lib.hid ((HC.out.below hb2).below ((Below.refl _ _).alloc (Nat.le_refl _) _))
            have HO2 := Lib.hid (ownsRow_below HO.out hb2)
            have HOl := Lib.hid (HO2.out.alloc (.cells #[.int .i64 p0, .int .i64 p1] 44))
            have HLP : Hid (Rd (w2.alloc (.cells #[.int .i64 p0, .int .i64 p1] 44)) (w2.heap.size + 1) 2 (some ⟨w2.heap.size, 0, none⟩) 1 (cP [(p0, p1)])) := Lib.hid (lit_pt_at (heap_alloc_new _ _))
            clear hb2 HC HO HB HRD
            go_wp2_with (at_builtin
                         refine wpList_append_rd rfl (.tmp 30) (.tmp 33) _ rfl w.heap.size 44 _ 2 16 Try.underlying29 info_pt rfl (by decide) (.slice Ao k co) k _ rfl HOl.out _ _ 1 1 (cP [(p0, p1)]) rfl HLP.out (cP_one _) (by unfold maxLen; omega) (by omega) (by simp; omega) ?_
                         intro v6 w6 hown hgr hat
                         obtain ⟨A6, c6, hv6, ho6⟩ := Ow.of_own hown
                         subst hv6
                         have HO6 : Hid (w6.ownsRow w.heap.size 44 2 (.slice A6 (k + 1) c6) (k + 1) (cP (uptoF (provF d x) (k + 1)))) := Lib.hid (by rw [uptoF_succ, HPR.out, cP_append]; exact hown)
                         have HB6 : Hid (Below w.heap.size w w6) := Lib.hid (below_grown (HB2.out.alloc hzw _) hgr (own_block HO2.out) (by simp; omega))
                         have HC6 : Hid (RdS w6 w.heap.size Ac q zc) := Lib.hid (HC2.out.grown HOl.out (by decide) hgr)
                         have hx6 := (HB6.out.cell (p := ax.add k) (by rw [add_block]; exact hax)).trans HX0.out
                         clear hown hgr hat ho6)
            go_wp2_with fail
            refine (s_l17Fold Ac q cc q2 zc t w6 HC6.out.1 HQ.out HNC.out hq8 x0 x1).mono ?_
            rintro e w7 ⟨A7, c7, rfl, ho7, hb7⟩
            have hq21 : 0 < q2 := by have := HQ.out; have := HC6.out.1.len; omega
            have HC7 : Hid (RdS w7 w.heap.size A7 q2 (foldsL d (x.take (k + 1)))) := Lib.hid (by rw [HST.out]; exact RdS.own ho7 hq21)
            have HO7 := Lib.hid (ownsRow_below HO6.out hb7)
            have HB7 : Hid (Below w.heap.size w w7) := Lib.hid (HB6.out.trans (hb7.mono HB6.out.size))
            clear ho7 hb7 HO6 HB6 HC6 HB2 HC2 HO2 HOl HLP HST HQ HNC HPR hx6 hq21
            go_wp2
            go_roundw
            case rel => exact ⟨k + 1, q2, c7, c6, A7, A6, by omega, by go_num, rfl, rfl, hq28, HC7, HO7, HB7⟩
            case measure => simp [intOf] <;> omega
          · obtain rfl : n' = k := by omega
            have HOr : Hid (OwPointS wr w.heap.size wr.heap.size (.slice Ao n' co) (R_CubeProve_0 d x)) := Lib.hid (by rw [HF.out.2]; exact done_pts HO.out (by omega))
            go_wp2
            go_ret2
            exact ⟨_, ret_vb HF.out.1.symm, HOr.out, HB.out⟩
    · have HF := cubeProve_no (d := d) (x := x) (by unfold fitB; rw [hl.out, hl'.out, hB.out]; simp [hnb])
      have e1 : ¬ (n' : Int) = (B : Int) := by omega
      have e2 : ((n' : Int) != (B : Int)) = true := by rw [bne_iff_ne]; exact e1
      clear hnb
      go_enter Try.func21, Try.ntmps21
      go_wp2_with fail
      refine (s_CubeOk _ _ _ _ _ H.out hn).mono ?_
      rintro e w' ⟨rfl, rfl⟩
      rw [hb]
      go_wp2_with fail
      refine (HV _).out.mono ?_
      rintro e w' ⟨rfl, rfl⟩
      go_wp2
      go_ret2
      refine ⟨_, ret_vb HF.out.1.symm, ?_, Below.refl _ _⟩
      rw [HF.out.2]; exact OwPointS.nil_ _ _ _
end Go.Proofs.Ytaiilopfdjbceaa
