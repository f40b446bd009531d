/- Chapter 5: the search in the model (l5Search). -/
import Derived.Test.YtjpjmlcmaombnaaMath6
import Derived.Test.YtjpjmlcmaombnaaWalk2n
namespace Go.Proofs.Ytjpjmlcmaombnaa
open Go.RowKit
set_option maxRecDepth 100000

theorem cP_one' (zs : List (Int × Int)) : ∀ u ∈ cP zs, u.oneCell' = true := cP_one zs
section
variable {ops : Array Oper} {o : Oper} {a : Act} {K : Act → World → Prop} {Q : Exit → Act → World → Prop} {E : Prop} {W wr : World}
/-- append([]Point{}, x...) -/
theorem step_cp (hgd : o.guard = none) (s x : Operand)
    (ho : o.op = .call { callee := .builtin .append, args := #[s, x], argTypes := #[29, 29] })
    {lo B m c : Nat} {A : Option Addr} {zs : List (Int × Int)} (hs : a.eval s = .slice (some ⟨B, 0, none⟩) 0 0) (hx : a.eval x = .slice A m c) (hB : wr.heap.size ≤ B) (hlit : W.heap[B]? = some (.cells #[] 53 (0, 0)))
    (hr : Rd wr lo 2 A m (cP zs)) (hlo : lo ≤ wr.heap.size) (hbel : Below wr.heap.size wr W) (hm : m ≤ 1000)
    (h : ∀ A' c' w', Hid (w'.ownsRow wr.heap.size 53 2 (.slice A' m c') m (cP zs)) → Hid (Below wr.heap.size wr w') → Hid (∀ (g : Nat) (u v : Value), W.heap[g]? = some (Obj.cells #[u, v] 53 (0, 0)) → w'.heap[g]? = some (Obj.cells #[u, v] 53 (0, 0))) → K (a.put o.dst (.slice A' m c')) w') :
    if Region.wanted o (yielded ops a.tmps) = true then Oper.wp Try.prog o a W K Q else E := by
  refine step_append_rd hgd s x _ ho wr.heap.size 53 _ 2 16 Try.underlying29 info_pt rfl (by decide) _ 0 [] hs (own_lit0 hB hlit) _ _ m c (cP zs) hx (hr.below (hbel.mono hlo)) (cP_one _) (by unfold maxLen; omega) (by omega) hbel.size ?_
  intro v1 w1 hown hg _
  obtain ⟨A1, c1, rfl, _⟩ := Ow.of_own hown
  refine h A1 c1 w1 (Lib.hid (by simpa using hown)) (Lib.hid (below_grown hbel hg (own_block (own_lit0 (e := 53) (size := 2) hB hlit)) hbel.size)) (Lib.hid fun g u v hu => ?_) |> fun k => by simpa using k
  rw [hg.block g (Array.getElem?_eq_some_iff.1 hu).1 ?_]
  · exact hu
  · intro e
    simp [Value.ownBlock] at e
    subst e
    rw [hlit] at hu; simp at hu
/-- append(v, Point) -/
theorem step_pt2 {w1 : World} (hgd : o.guard = none) (s x : Operand)
    (ho : o.op = .call { callee := .builtin .append, args := #[s, x], argTypes := #[29, 29] })
    {g m c : Nat} {A : Option Addr} {zs : List (Int × Int)} {p q : Int} (hs : a.eval s = .slice A m c) (hx : a.eval x = .slice (some ⟨g, 0, none⟩) 1 1) (hown : w1.ownsRow wr.heap.size 53 2 (.slice A m c) m (cP zs)) (hb1 : Below wr.heap.size wr w1) (hW : Below w1.heap.size w1 W)
    (hl : W.heap[g]? = some (.cells #[.int .i64 p, .int .i64 q] 53 (0, 0))) (hm : m ≤ 1000)
    (h : ∀ A' c' w', Hid (w'.ownsRow wr.heap.size 53 2 (.slice A' (m + 1) c') (m + 1) (cP (zs ++ [(p, q)]))) → Hid (Below wr.heap.size wr w') → K (a.put o.dst (.slice A' (m + 1) c')) w') :
    if Region.wanted o (yielded ops a.tmps) = true then Oper.wp Try.prog o a W K Q else E := by
  have hb2 : Below wr.heap.size wr W := hb1.trans (hW.mono hb1.size)
  refine step_append_rd hgd s x _ ho wr.heap.size 53 _ 2 16 Try.underlying29 info_pt rfl (by decide) (.slice A m c) m (cP zs) hs (ownsRow_below hown hW) _ _ 1 1 (cP [(p, q)]) hx (lit_pt_at hl) (cP_one _) (by unfold maxLen; omega) (by omega) hb2.size ?_
  intro v1 w1 hown' hg _
  obtain ⟨A1, c1, rfl, _⟩ := Ow.of_own hown'
  exact h A1 c1 w1 (Lib.hid (by rw [cP_append]; exact hown')) (Lib.hid (below_grown hb2 hg (own_block hown) hb2.size))
end
theorem ret_vbool {v : Value} {a b : Bool} (h : a = b) : Ending.returned (.tuple #[v, .bool a]) = .returned (.tuple #[v, .bool b]) := by rw [h]
def isB (o : Option (List Int)) : Bool := o.isSome

set_option maxHeartbeats 2000000 in
theorem s_leaf (A : Option Addr) (n c b : Nat) (d : List Pt) (hdn : d.length = n) (hn : n ≤ 7) (hd : GL d) (z : Int) (rest ch : List Pt) (A' : Option Addr) (m c' : Nat) (w : World) (hgl : GL ch) (hlm : ch.length = m) (hleaf : m = b + 1) (hb : b < n) (h : Rd w w.heap.size 2 A n (cP d)) (h' : Rd w w.heap.size 2 A' m (cP ch)) :
    Calls Try.prog 63 #[.slice A n c, .int .i64 z, .slice A' m c', .int .i64 b] w fun e w' => ∃ v, e = .returned (.tuple #[v, .bool (isB (sF d (b + 1) (mostI n b) rest ch))]) ∧ (∀ p, sF d (b + 1) (mostI n b) rest ch = some p → OwIntS w' w.heap.size w'.heap.size v p) ∧ Below w.heap.size w w' := by
  have HD := Lib.hid hd
  have HDN := Lib.hid hdn
  have H := Lib.hid h
  have H' := Lib.hid h'
  have HGL := Lib.hid hgl
  have HLM := Lib.hid hlm
  clear hd hdn h h' hgl hlm
  have hq : ((m : Int) == (b : Int) + 1) = true := by rw [beq_iff_eq]; omega
  have HGC := Lib.hid (HGL.out).good
  have HSL : Hid (sF d (b + 1) (mostI n b) rest ch = tstF d (mostI n b) ch) := Lib.hid (sF_leaf (by rw [HLM.out, hleaf]))
  have HXI : Hid (XIn d n) := Lib.hid (by have := HD.out.good.x0; rw [HDN.out] at this; exact this)
  have hm7 : m ≤ 20 := by omega
  clear hleaf
  go_enter Try.func63, Try.ntmps63
  go_wp2_with fail
  refine (s_l2Through _ _ _ _ _ H'.out hm7 (by rw [← HLM.out]; exact HGC.out)).mono ?_
  rintro e w1 ⟨v, rfl, ho, hb1⟩
  obtain ⟨A1, n1, c1, rfl, hn1, hnc, ho1⟩ := ho.open
  have HV : Hid (thrS ch m m = thrL ch) := Lib.hid (by unfold thrL; rw [HLM.out])
  rw [HV.out] at ho ho1 hn1
  have HO := Lib.hid ho
  have HR1 := Lib.hid ho1.rd
  have HB1 := Lib.hid hb1
  have z1 := hb1.size
  have hn1' : n1 ≤ 1048576 := by have := thrL_len ch; rw [HLM.out] at this; omega
  clear ho ho1 hb1 hn1
  go_wp2_with fail
  refine (s_l5Wrong _ _ _ _ _ _ _ _ _ HR1.out (thrL_nums ch) hn1' ((H.out.below HB1.out).more z1) HXI.out (by omega)).mono ?_
  rintro e w2 ⟨v2, rfl, ho2, hb2⟩
  obtain ⟨A2, n2, c2, rfl, hn2, _, _⟩ := ho2.open
  have HO2 := Lib.hid (HO.out.below hb2 (Nat.le_refl _))
  have HB2 := Lib.hid (HB1.out.trans (hb2.mono z1))
  have z2 := hb2.size
  have HN2 : Hid (n2 = (wrL (thrL ch) d).length) := Lib.hid (by unfold wrL; rw [HDN.out]; exact hn2)
  have hn2' : n2 ≤ n := by rw [hn2]; exact wrK_le _ _ _
  clear ho2 hb2 hn2
  go_wp2_with fail
  refine (s_MendMost _ _ _).mono ?_
  rintro e w3 ⟨rfl, rfl⟩
  have HT : Hid (tstF d (mostI n b) ch = if (n2 : Int) ≤ mostI n b then some (thrL ch) else none) := Lib.hid (by unfold tstF; rw [HN2.out])
  have HF : Hid (decide ((n2 : Int) ≤ mostI n b) = isB (sF d (b + 1) (mostI n b) rest ch)) := Lib.hid (by
    rw [HSL.out, HT.out]; by_cases h9 : (n2 : Int) ≤ mostI n b <;> simp [h9, isB])
  have HFO : Hid (∀ p, sF d (b + 1) (mostI n b) rest ch = some p → p = thrL ch) := Lib.hid (fun p hp => by
    rw [HSL.out, HT.out] at hp
    split at hp
    · injection hp with hp; exact hp.symm
    · cases hp)
  clear HV HN2 HT
  go_wp2
  go_ret2
  refine ⟨_, ret_vbool HF.out, fun p hp => ?_, HB2.out⟩
  rw [HFO.out p hp]; exact HO2.out.widen (Nat.le_refl _) z2
theorem own_rd2 {w : World} {B m c hi : Nat} {A : Option Addr} {xs : List Pt} (h : w.ownsRow B 53 2 (.slice A m c) m (cP xs)) (hh : w.heap.size ≤ hi) : Rd w hi 2 A m (cP xs) := by
  obtain ⟨A1, c1, e, ho⟩ := Ow.of_own h
  injection e with e1 e2 e3
  subst e1
  exact ho.rd.more hh
set_option maxHeartbeats 8000000 in
theorem s_search (A : Option Addr) (n c b : Nat) (d : List Pt) (hdn : d.length = n) (hn : n ≤ 7) (hd : GL d) (hb : b < n) (k : Nat) :
    ∀ (at_ : Nat) (z : Int) (ch : List Pt) (A' : Option Addr) (m c' : Nat) (w : World), z = (at_ : Int) → at_ + k = n → GL (ch ++ d.drop at_) → ch.length = m → m ≤ b + 1 → Rd w w.heap.size 2 A n (cP d) → Rd w w.heap.size 2 A' m (cP ch) →
    Calls Try.prog 63 #[.slice A n c, .int .i64 z, .slice A' m c', .int .i64 b] w fun e w' => ∃ v, e = .returned (.tuple #[v, .bool (isB (sF d (b + 1) (mostI n b) (d.drop at_) ch))]) ∧ (∀ p, sF d (b + 1) (mostI n b) (d.drop at_) ch = some p → OwIntS w' w.heap.size w'.heap.size v p) ∧ Below w.heap.size w w' := by
  have HD := Lib.hid hd
  have HDN := Lib.hid hdn
  clear hd hdn
  induction k using Nat.strongRecOn with
  | _ k ih =>
    intro at_ z ch A' m c' w hz hk hgl hlm hm h h'
    by_cases hleaf : m = b + 1
    · exact s_leaf A n c b d HDN.out hn HD.out z (d.drop at_) ch A' m c' w (hgl.sub (List.sublist_append_left ch _)) hlm hleaf hb h h'
    have HIH := Lib.hid ih
    subst hz
    have H := Lib.hid h
    have H' := Lib.hid h'
    have HGL := Lib.hid hgl
    have HLM := Lib.hid hlm
    have HNE : Hid (ch.length ≠ b + 1) := Lib.hid (by rw [hlm]; exact hleaf)
    have hq : ((m : Int) == (b : Int) + 1) = false := by rw [beq_eq_false_iff_ne]; omega
    have hmb : m ≤ b := by omega
    clear ih h h' hgl hlm hleaf
    go_enter Try.func63, Try.ntmps63
    go_wp2
    go_loopw [11] (fun i wr => ∃ j : Nat, at_ ≤ j ∧ j ≤ n ∧ i = .int .i64 j ∧ Hid (sF d (b + 1) (mostI n b) (d.drop at_) ch = sF d (b + 1) (mostI n b) (d.drop j) ch) ∧ Hid (Below w.heap.size w wr)) (fun i _ => n - (intOf i).toNat)
    case atStart => exact ⟨at_, Nat.le_refl _, by omega, rfl, Lib.hid rfl, Lib.hid (Below.refl _ _)⟩
    case round =>
      obtain ⟨j, hj, hjn, rfl, HE, HB⟩ := hrel
      by_cases hlt : j < n
      · obtain ⟨a, x, y, rfl, hab, hx0, hy0, HP⟩ := H.out.ptAt hlt
        have hx := (HB.out.cell (p := a.add (j * 2)) (by rw [add_block]; exact hab)).trans hx0
        have hy := (HB.out.cell (p := ⟨(a.add (j * 2)).block, (a.add (j * 2)).off + 1, none⟩) (by rw [add_block]; exact hab)).trans hy0
        have HDR : Hid (d.drop j = (x, y) :: d.drop (j + 1)) := Lib.hid (by rw [drop_step d j (by rw [HDN.out]; exact hlt), HP.out])
        have HX := Lib.hid hx
        have HY := Lib.hid hy
        clear hx0 hy0
        have hzw := HB.out.size
        have HAB : Hid ((a.add (j * 2)).block < wr.heap.size) := Lib.hid (by rw [add_block]; exact Nat.lt_of_lt_of_le hab hzw)
        have HRc : Hid (Rd wr wr.heap.size 2 A' m (cP ch)) := Lib.hid ((H'.out.below HB.out).more hzw)
        have HRd : Hid (Rd wr wr.heap.size 2 (some a) n (cP d)) := Lib.hid ((H.out.below HB.out).more hzw)
        have HGN : Hid (GL ((ch ++ [(x, y)]) ++ d.drop (j + 1))) := Lib.hid (HGL.out.sub (by
          rw [List.append_assoc, List.singleton_append, ← HDR.out]; exact drop_sub d ch hj))
        have i0 : (0 : Int) ≤ (j : Int) := by omega
        have i1 : (j : Int) < (n : Int) := by omega
        have iw : IntKind.i64.wrap ((j : Int) + 1) = (j : Int) + 1 := IntWalk.i64_in _ (by omega)
        cases hs : sF d (b + 1) (mostI n b) (d.drop (j + 1)) (ch ++ [(x, y)]) with
        | none =>
          have HSV : Hid (sF d (b + 1) (mostI n b) (d.drop (j + 1)) (ch ++ [(x, y)]) = none) := Lib.hid hs
          clear hs
          go_wp2
          go_region_held3 (fun w' => w'.cell? (a.add (j * 2)) = some (.int .i64 x) ∧ w'.cell? ⟨(a.add (j * 2)).block, (a.add (j * 2)).off + 1, none⟩ = some (.int .i64 y)) (go_keep) (first
            | (refine step_cp rfl (.tmp 42) (.tmp 43) rfl (wr := wr) rfl rfl ?hge ?hlit HRc.out (Nat.le_refl _) ?hbel (by omega) ?_
               case hge => first | exact Nat.le_refl _ | exact Nat.le_succ _ | (simp; done)
               case hlit => first | exact heap_alloc_new _ _ | exact (Below.heap_alloc _ _ _ (by simp)).trans (heap_alloc_new _ _) | exact hid_size (by simp) (heap_alloc_new _ _)
               case hbel => first | exact below_drew ((Below.refl _ _).alloc (Nat.le_refl _) _) | exact below_drew (((Below.refl _ _).alloc (Nat.le_refl _) _).alloc (by simp) _)
               intro A1 c1 w1 h1 h2 h3
               have hx1 := (h2.out.cell HAB.out).trans HX.out
               have hy1 := (h2.out.cell (p := ⟨(a.add (j * 2)).block, (a.add (j * 2)).off + 1, none⟩) HAB.out).trans HY.out
               first
                | (have HL := Lib.hid (h3.out _ _ _ (heap_alloc_new _ _)); clear h3)
                | (have HL := Lib.hid (h3.out _ _ _ ((Below.heap_alloc _ _ _ (by simp)).trans (heap_alloc_new _ _))); clear h3)
                | clear h3)
            | (refine step_pt2 (p := x) (q := y) rfl (.tmp 44) (.tmp 49) rfl rfl rfl h1.out h2.out ?hW ?hl (by omega) ?_
               case hW => first | exact (Below.refl _ _).alloc (Nat.le_refl _) _ | exact Below.refl _ _
               case hl => first | exact heap_alloc_new _ _ | exact HL.out | exact hid_size (by simp) HL.out
               clear h1 h2 hx1 hy1
               intro A2 c2 w2 h4 h5
               have hx1 := (h5.out.cell HAB.out).trans HX.out
               have hy1 := (h5.out.cell (p := ⟨(a.add (j * 2)).block, (a.add (j * 2)).off + 1, none⟩) HAB.out).trans HY.out)
            | (go_at_call 63
               refine (HIH.out (n - (j + 1)) (by omega) (j + 1) ((j : Int) + 1) (ch ++ [(x, y)]) A2 (m + 1) c2 _ (by simp) (by omega) HGN.out (by rw [List.length_append, HLM.out]; rfl) (by omega) ((HRd.out.below h5.out).more h5.out.size) (own_rd2 h4.out (Nat.le_refl _))).mono ?_
               rintro e w3 ⟨v3, rfl, ho3, hb3⟩
               rw [HSV.out]
               have HO3 := Lib.hid ho3
               have HB3 := Lib.hid (h5.out.trans (hb3.mono h5.out.size))
               have HZ3 := Lib.hid h5.out.size
               have hx2 := (HB3.out.cell HAB.out).trans HX.out
               have hy2 := (HB3.out.cell (p := ⟨(a.add (j * 2)).block, (a.add (j * 2)).off + 1, none⟩) HAB.out).trans HY.out
               clear h4 h5 hx1 hy1 ho3 hb3))
          all_goals (
            have HE2 : Hid (sF d (b + 1) (mostI n b) (d.drop at_) ch = sF d (b + 1) (mostI n b) (d.drop (j + 1)) ch) := Lib.hid (by rw [HE.out, HDR.out, sF_none HNE.out HSV.out])
            have HB4 := Lib.hid (HB.out.trans (HB3.out.mono hzw))
            clear HO3 HB3 HZ3 hx2 hy2 iw
            go_wp2
            go_roundw
            case rel => exact ⟨j + 1, by omega, by omega, by go_num, HE2, HB4⟩
            case measure => simp [intOf] <;> omega)
        | some p =>
          have HSV : Hid (sF d (b + 1) (mostI n b) (d.drop (j + 1)) (ch ++ [(x, y)]) = some p) := Lib.hid hs
          clear hs
          go_wp2
          go_region_held3 (fun w' => w'.cell? (a.add (j * 2)) = some (.int .i64 x) ∧ w'.cell? ⟨(a.add (j * 2)).block, (a.add (j * 2)).off + 1, none⟩ = some (.int .i64 y)) (go_keep) (first
            | (refine step_cp rfl (.tmp 42) (.tmp 43) rfl (wr := wr) rfl rfl ?hge ?hlit HRc.out (Nat.le_refl _) ?hbel (by omega) ?_
               case hge => first | exact Nat.le_refl _ | exact Nat.le_succ _ | (simp; done)
               case hlit => first | exact heap_alloc_new _ _ | exact (Below.heap_alloc _ _ _ (by simp)).trans (heap_alloc_new _ _) | exact hid_size (by simp) (heap_alloc_new _ _)
               case hbel => first | exact below_drew ((Below.refl _ _).alloc (Nat.le_refl _) _) | exact below_drew (((Below.refl _ _).alloc (Nat.le_refl _) _).alloc (by simp) _)
               intro A1 c1 w1 h1 h2 h3
               have hx1 := (h2.out.cell HAB.out).trans HX.out
               have hy1 := (h2.out.cell (p := ⟨(a.add (j * 2)).block, (a.add (j * 2)).off + 1, none⟩) HAB.out).trans HY.out
               first
                | (have HL := Lib.hid (h3.out _ _ _ (heap_alloc_new _ _)); clear h3)
                | (have HL := Lib.hid (h3.out _ _ _ ((Below.heap_alloc _ _ _ (by simp)).trans (heap_alloc_new _ _))); clear h3)
                | clear h3)
            | (refine step_pt2 (p := x) (q := y) rfl (.tmp 44) (.tmp 49) rfl rfl rfl h1.out h2.out ?hW ?hl (by omega) ?_
               case hW => first | exact (Below.refl _ _).alloc (Nat.le_refl _) _ | exact Below.refl _ _
               case hl => first | exact heap_alloc_new _ _ | exact HL.out | exact hid_size (by simp) HL.out
               clear h1 h2 hx1 hy1
               intro A2 c2 w2 h4 h5
               have hx1 := (h5.out.cell HAB.out).trans HX.out
               have hy1 := (h5.out.cell (p := ⟨(a.add (j * 2)).block, (a.add (j * 2)).off + 1, none⟩) HAB.out).trans HY.out)
            | (go_at_call 63
               refine (HIH.out (n - (j + 1)) (by omega) (j + 1) ((j : Int) + 1) (ch ++ [(x, y)]) A2 (m + 1) c2 _ (by simp) (by omega) HGN.out (by rw [List.length_append, HLM.out]; rfl) (by omega) ((HRd.out.below h5.out).more h5.out.size) (own_rd2 h4.out (Nat.le_refl _))).mono ?_
               rintro e w3 ⟨v3, rfl, ho3, hb3⟩
               rw [HSV.out]
               have HO3 := Lib.hid ho3
               have HB3 := Lib.hid (h5.out.trans (hb3.mono h5.out.size))
               have HZ3 := Lib.hid h5.out.size
               have hx2 := (HB3.out.cell HAB.out).trans HX.out
               have hy2 := (HB3.out.cell (p := ⟨(a.add (j * 2)).block, (a.add (j * 2)).off + 1, none⟩) HAB.out).trans HY.out
               clear h4 h5 hx1 hy1 ho3 hb3))
          all_goals (
            have HE2 : Hid (sF d (b + 1) (mostI n b) (d.drop at_) ch = some p) := Lib.hid (by rw [HE.out, HDR.out, sF_some HNE.out HSV.out])
            have HE3 : Hid (true = isB (sF d (b + 1) (mostI n b) (d.drop at_) ch)) := Lib.hid (by rw [HE2.out]; rfl)
            have HB4 := Lib.hid (HB.out.trans (HB3.out.mono hzw))
            have HO4 := Lib.hid ((HO3.out p HSV.out).widen (Nat.le_trans hzw HZ3.out) (Nat.le_refl _))
            clear HO3 HB3 HZ3 hx2 hy2 iw
            go_wp2
            go_ret2
            refine ⟨_, ret_vbool HE3.out, fun p' hp => ?_, HB4.out⟩
            rw [HE2.out] at hp; injection hp with hp; rw [← hp]; exact HO4.out)
      · obtain rfl : n = j := by omega
        have HF : Hid (false = isB (sF d (b + 1) (mostI n b) (d.drop at_) ch) ∧ ∀ p, sF d (b + 1) (mostI n b) (d.drop at_) ch = some p → False) := Lib.hid (by
          rw [HE.out, List.drop_eq_nil_of_le (by rw [HDN.out]; exact Nat.le_refl _), sF_nil HNE.out]; exact ⟨rfl, fun p h => by cases h⟩)
        go_wp2
        go_ret2
        exact ⟨_, ret_vbool HF.out.1, fun p hp => (HF.out.2 p hp).elim, HB.out⟩
end Go.Proofs.Ytjpjmlcmaombnaa
