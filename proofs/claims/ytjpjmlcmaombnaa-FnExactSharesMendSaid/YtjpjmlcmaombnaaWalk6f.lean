/- Chapter 5: the program's search: try. -/
import Derived.Test.YtjpjmlcmaombnaaWalk6e
namespace Go.Proofs.Ytjpjmlcmaombnaa
open Go.RowKit
set_option maxRecDepth 100000

theorem Rd.drewHere {W : World} {size n : Nat} {A : Option Addr} {xs : List Value} (h : Rd W W.heap.size size A n xs) : Rd W.drew W.drew.heap.size size A n xs := h
/-- what try comes to: a panic with the reading, or nothing -/
def TryP (o : Option (List Int)) (d : List Pt) (lo : Nat) (e : Ending) (w' : World) : Prop := match o with
  | some p => ∃ v, e = .panicked (rdP p v) ∧ OwIntS w' lo w'.heap.size v (wrL p d)
  | none => e = .returned (.tuple #[])
theorem box3 (W : World) (A : Option Addr) (n c : Nat) (b1 most : Int) (g : Nat) (hx : W.heap[g]? = some (.cells #[.slice A n c, .int .i64 b1, .int .i64 most] 79 (0, 0))) :
    W.cell? ⟨g, 0, none⟩ = some (.slice A n c) ∧ W.cell? ⟨g, 1, none⟩ = some (.int .i64 b1) ∧ W.cell? ⟨g, 2, none⟩ = some (.int .i64 most) :=
  ⟨by rw [cell_of_row W _ 0 _ _ _ hx]; rfl, by rw [cell_of_row W _ 1 _ _ _ hx]; rfl, by rw [cell_of_row W _ 2 _ _ _ hx]; rfl⟩

set_option maxHeartbeats 4000000 in
theorem i_try_leaf (A A1 A2 : Option Addr) (n c m c1 n2 c2 : Nat) (most : Int) (d ch : List Pt) (w : World) (h : Rd w w.heap.size 2 A n (cP d)) (hn : n ≤ 7) (hX : XIn d n) (h' : Rd w w.heap.size 2 A1 m (cP ch)) (hG : GL ch) (hm2 : m ≤ 7) :
    Calls Try.prog 108 #[mdV A n c m most, .slice A1 m c1, .slice A2 n2 c2] w fun e w' => TryP (tstF d most ch) d w.heap.size e w' ∧ Below w.heap.size w w' := by
  have HDN := Lib.hid h.plen
  have HLM := Lib.hid h'.plen
  obtain ⟨W, hW⟩ : ∃ W, Hid (w.alloc (.cells #[.slice A n c, .int .i64 m, .int .i64 most] 79) = W) := ⟨_, Lib.hid rfl⟩
  have HB0 : Hid (Below w.heap.size w W) := Lib.hid (by rw [← hW.out]; exact (Below.refl _ _).alloc (Nat.le_refl _) _)
  have hx : W.heap[w.heap.size]? = some (.cells #[.slice A n c, .int .i64 m, .int .i64 most] 79 (0, 0)) := by rw [← hW.out]; exact heap_alloc_new _ _
  obtain ⟨hc0, hc1, hc2⟩ := box3 W A n c m most _ hx
  have HX := Lib.hid hx
  have HR := Lib.hid ((h.below HB0.out).more HB0.out.size)
  have HC := Lib.hid ((h'.below HB0.out).more HB0.out.size)
  have HGG : Hid (Good ch m) := Lib.hid (by have := hG.good; rw [HLM.out] at this; exact this)
  have HV : Hid ((thrI ch m).1 = thrL ch) := Lib.hid (by have := thrL_I hG; rw [HLM.out] at this; exact this)
  have HGL := Lib.hid hG
  have HXI := Lib.hid hX
  have hq : ((m : Int) == (m : Int)) = true := by simp
  clear hx h h' hG hX
  have hs0 := And.intro hc0 (And.intro hc1 hc2)
  cases hlw : decide (((wrL (thrL ch) d).length : Int) ≤ most)
  · have HT : Hid (tstF d most ch = none) := Lib.hid (by unfold tstF; rw [if_neg (of_decide_eq_false hlw)])
    have HLW := Lib.hid (of_decide_eq_false hlw)
    clear hlw
    go_enter Try.func108, Try.ntmps108
    go_wp2
    rw [hW.out]
    go_wp2
    refine wp_region_held_drew (S := fun w' => w'.cell? ⟨w.heap.size, 0, none⟩ = some (.slice A n c) ∧ w'.cell? ⟨w.heap.size, 1, none⟩ = some (.int .i64 m) ∧ w'.cell? ⟨w.heap.size, 2, none⟩ = some (.int .i64 most)) (by kernel_rfl) hs0 (fun hHeld => ?_)
    refine wpAnyH_take (i := 0) (oi := { dst := some 13, op := Op.load 79 (Operand.tmp 3), type := 79, pos := "l5_mending.go:19", after := #[], guard := none }) (v := ?_) rfl (by kernel_rfl) (by kernel_rfl) (by kernel_rfl) (fun _ _ _ h => h) (Or.inl ⟨by rfl, ?_⟩) hHeld ?_
    rotate_left
    · intro w hSw; (try dsimp only at hSw); go_simp; (try with_reducible rfl)
    try simp only [Act.put, List.setIfInBounds_toArray, List.set_cons_zero, List.set_cons_succ]
    refine wpAnyH_take (i := 1) (oi := { dst := some 14, op := Op.move (Operand.tmp 1), type := 29, pos := "l5_mending.go:19", after := #[], guard := none }) (v := ?_) rfl (by kernel_rfl) (by kernel_rfl) (by kernel_rfl) (fun _ _ _ h => h) (Or.inl ⟨by rfl, ?_⟩) hHeld ?_
    rotate_left
    · intro w hSw; (try dsimp only at hSw); go_simp; (try with_reducible rfl)
    try simp only [Act.put, List.setIfInBounds_toArray, List.set_cons_zero, List.set_cons_succ]
    refine wpAnyH_ready (rs := [2]) (by kernel_rfl) (by simp) ?_
    refine AllReadyH.cons (o := { dst := some 15, op := Op.call { callee := Callee.value (Operand.func 99), args := #[Operand.tmp 14], argTypes := #[29] }, type := 95, pos := "l5_mending.go:19", after := #[{ on := 1, ground := Ground.data }], guard := none }) rfl (fun K hK => ?_) AllReadyH.nil
    go_simp
    with_reducible refine (i_through _ _ _ _ _ HC.out.drewHere (by omega) HGG.out).mono ?_
    rintro e w2 ⟨v2, rfl, ho2, hb2⟩
    rw [HV.out] at ho2
    obtain ⟨A3, n3, c3, rfl, hn3, hnc3, ho3⟩ := ho2.open
    have hb2' : Below W.heap.size W w2 := ⟨hb2.os, hb2.tape, hb2.output, hb2.size, hb2.block⟩
    have HP2 : Hid (Rd w2 w2.heap.size 1 A3 n3 (cI (thrL ch))) := Lib.hid ho3.rd
    have HB2 : Hid (Below w.heap.size w w2) := Lib.hid (HB0.out.trans (hb2'.mono HB0.out.size))
    have HR2 : Hid (Rd w2 w2.heap.size 2 A n (cP d)) := Lib.hid ((HR.out.below hb2').more hb2'.size)
    have HZ2 : Hid (W.heap.size ≤ w2.heap.size) := Lib.hid hb2'.size
    obtain ⟨hd0, hd1, hd2⟩ := box3 w2 A n c m most _ ((hb2'.block _ (Array.getElem?_eq_some_iff.1 HX.out).1).trans HX.out)
    have hn3' : n3 ≤ 1048576 := by have := thrL_len ch; rw [HLM.out] at this; omega
    clear ho2 ho3 hn3 hnc3 hb2 hb2'
    refine hK.out _ _ ⟨hd0, hd1, hd2⟩ (fun hHeld => ?_)
    clear hK K
    try simp only [Act.put, List.setIfInBounds_toArray, List.set_cons_zero, List.set_cons_succ]
    refine wpAnyH_ready (rs := [3]) (by kernel_rfl) (by simp) ?_
    refine AllReadyH.cons (o := { dst := some 16, op := Op.call { callee := Callee.value (Operand.func 125), args := #[Operand.tmp 13, Operand.tmp 15], argTypes := #[79, 95] }, type := 0, pos := "l5_mending.go:19", after := #[{ on := 0, ground := Ground.data }, { on := 2, ground := Ground.data }, { on := 2, ground := Ground.chain }], guard := none }) rfl (fun K hK => ?_) AllReadyH.nil
    go_simp
    refine (i_read_no _ _ _ _ _ _ _ _ _ _ _ HR2.out (by omega) HXI.out HP2.out (thrL_nums ch) hn3' (by have := HLW.out; omega)).mono ?_
    rintro e w3 ⟨rfl, hb3⟩
    have HB3 := Lib.hid (HB2.out.trans (hb3.mono HB2.out.size))
    have hz2 : w.heap.size < w2.heap.size := by
      have h1 := (Array.getElem?_eq_some_iff.1 HX.out).1
      exact Nat.lt_of_lt_of_le h1 HZ2.out
    have he0 := (hb3.cell (p := ⟨w.heap.size, 0, none⟩) hz2).trans hd0
    have he1 := (hb3.cell (p := ⟨w.heap.size, 1, none⟩) hz2).trans hd1
    have he2 := (hb3.cell (p := ⟨w.heap.size, 2, none⟩) hz2).trans hd2
    clear hb3
    refine hK.out _ _ ⟨he0, he1, he2⟩ (fun hHeld => ?_)
    clear hK K
    try simp only [Act.put, List.setIfInBounds_toArray, List.set_cons_zero, List.set_cons_succ]
    refine wpAnyH_done (by kernel_rfl) ?_ _
    clear hd0 hd1 hd2 he0 he1 he2 hHeld
    go_wp2
    refine bodyPost_ret (results_none rfl _ _ _) rfl ?_
    exact ⟨by rw [HT.out]; rfl, HB3.out⟩
  · have HT : Hid (tstF d most ch = some (thrL ch)) := Lib.hid (by unfold tstF; rw [if_pos (of_decide_eq_true hlw)])
    have HLW := Lib.hid (of_decide_eq_true hlw)
    clear hlw
    go_enter Try.func108, Try.ntmps108
    go_wp2
    rw [hW.out]
    go_wp2
    refine wp_region_held_drew (S := fun w' => w'.cell? ⟨w.heap.size, 0, none⟩ = some (.slice A n c) ∧ w'.cell? ⟨w.heap.size, 1, none⟩ = some (.int .i64 m) ∧ w'.cell? ⟨w.heap.size, 2, none⟩ = some (.int .i64 most)) (by kernel_rfl) hs0 (fun hHeld => ?_)
    refine wpAnyH_take (i := 0) (oi := { dst := some 13, op := Op.load 79 (Operand.tmp 3), type := 79, pos := "l5_mending.go:19", after := #[], guard := none }) (v := ?_) rfl (by kernel_rfl) (by kernel_rfl) (by kernel_rfl) (fun _ _ _ h => h) (Or.inl ⟨by rfl, ?_⟩) hHeld ?_
    rotate_left
    · intro w hSw; (try dsimp only at hSw); go_simp; (try with_reducible rfl)
    try simp only [Act.put, List.setIfInBounds_toArray, List.set_cons_zero, List.set_cons_succ]
    refine wpAnyH_take (i := 1) (oi := { dst := some 14, op := Op.move (Operand.tmp 1), type := 29, pos := "l5_mending.go:19", after := #[], guard := none }) (v := ?_) rfl (by kernel_rfl) (by kernel_rfl) (by kernel_rfl) (fun _ _ _ h => h) (Or.inl ⟨by rfl, ?_⟩) hHeld ?_
    rotate_left
    · intro w hSw; (try dsimp only at hSw); go_simp; (try with_reducible rfl)
    try simp only [Act.put, List.setIfInBounds_toArray, List.set_cons_zero, List.set_cons_succ]
    refine wpAnyH_ready (rs := [2]) (by kernel_rfl) (by simp) ?_
    refine AllReadyH.cons (o := { dst := some 15, op := Op.call { callee := Callee.value (Operand.func 99), args := #[Operand.tmp 14], argTypes := #[29] }, type := 95, pos := "l5_mending.go:19", after := #[{ on := 1, ground := Ground.data }], guard := none }) rfl (fun K hK => ?_) AllReadyH.nil
    go_simp
    with_reducible refine (i_through _ _ _ _ _ HC.out.drewHere (by omega) HGG.out).mono ?_
    rintro e w2 ⟨v2, rfl, ho2, hb2⟩
    rw [HV.out] at ho2
    obtain ⟨A3, n3, c3, rfl, hn3, hnc3, ho3⟩ := ho2.open
    have hb2' : Below W.heap.size W w2 := ⟨hb2.os, hb2.tape, hb2.output, hb2.size, hb2.block⟩
    have HP2 : Hid (Rd w2 w2.heap.size 1 A3 n3 (cI (thrL ch))) := Lib.hid ho3.rd
    have HB2 : Hid (Below w.heap.size w w2) := Lib.hid (HB0.out.trans (hb2'.mono HB0.out.size))
    have HR2 : Hid (Rd w2 w2.heap.size 2 A n (cP d)) := Lib.hid ((HR.out.below hb2').more hb2'.size)
    have HZ2 : Hid (W.heap.size ≤ w2.heap.size) := Lib.hid hb2'.size
    obtain ⟨hd0, hd1, hd2⟩ := box3 w2 A n c m most _ ((hb2'.block _ (Array.getElem?_eq_some_iff.1 HX.out).1).trans HX.out)
    have hn3' : n3 ≤ 1048576 := by have := thrL_len ch; rw [HLM.out] at this; omega
    clear ho2 ho3 hn3 hnc3 hb2 hb2'
    refine hK.out _ _ ⟨hd0, hd1, hd2⟩ (fun hHeld => ?_)
    clear hK K
    try simp only [Act.put, List.setIfInBounds_toArray, List.set_cons_zero, List.set_cons_succ]
    refine wpAnyH_ready (rs := [3]) (by kernel_rfl) (by simp) ?_
    refine AllReadyH.cons (o := { dst := some 16, op := Op.call { callee := Callee.value (Operand.func 125), args := #[Operand.tmp 13, Operand.tmp 15], argTypes := #[79, 95] }, type := 0, pos := "l5_mending.go:19", after := #[{ on := 0, ground := Ground.data }, { on := 2, ground := Ground.data }, { on := 2, ground := Ground.chain }], guard := none }) rfl (fun K hK => ?_) AllReadyH.nil
    go_simp
    refine (i_read_yes _ _ _ _ _ _ _ _ _ _ _ HR2.out (by omega) HXI.out HP2.out (thrL_nums ch) hn3' (by have := HLW.out; exact this)).mono ?_
    rintro e w3 ⟨v3, rfl, ho3, hb3⟩
    have HB3 := Lib.hid (HB2.out.trans (hb3.mono HB2.out.size))
    have HO3 := Lib.hid (ho3.widen (Nat.le_trans HB0.out.size HZ2.out) (Nat.le_refl _))
    clear hb3 ho3 hd0 hd1 hd2 hHeld hK
    go_wp2
    exact ⟨rfl, by rw [HT.out]; exact ⟨_, rfl, HO3.out⟩, HB3.out⟩
end Go.Proofs.Ytjpjmlcmaombnaa
