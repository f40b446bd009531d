/- Chapter 5: the program's search: try, whole. -/
import Derived.Test.YtjpjmlcmaombnaaWalk6f
import Derived.Test.YtjpjmlcmaombnaaAppend2
namespace Go.Proofs.Ytjpjmlcmaombnaa
open Go.RowKit
set_option maxRecDepth 100000

section
variable {ops : Array Oper} {o : Oper} {a : Act} {K : Act → World → Prop} {Q : Exit → Act → World → Prop} {E : Prop} {W : World}
/-- append(v, Point), v read again later -/
theorem step_back (hgd : o.guard = none) (s x : Operand)
    (ho : o.op = .call { callee := .builtin .append, args := #[s, x], argTypes := #[29, 29] })
    {base g m c : Nat} {A : Option Addr} {zs : List Pt} {p q : Int} (hs : a.eval s = .slice A m c) (hx : a.eval x = .slice (some ⟨g, 0, none⟩) 1 1) (hown : W.ownsRow base 53 2 (.slice A m c) m (cP zs))
    (hl : W.heap[g]? = some (.cells #[.int .i64 p, .int .i64 q] 53 (0, 0))) (hm : m ≤ 1000) (hbase : base ≤ W.heap.size)
    (h : ∀ A' c' w', Hid (w'.ownsRow base 53 2 (.slice A' (m + 1) c') (m + 1) (cP (zs ++ [(p, q)]))) → Hid (W.grownBy w' (Value.ownBlock (.slice A m c))) → Hid (Value.ownBlock (.slice A' (m + 1) c') = Value.ownBlock (.slice A m c) ∨ Value.ownBlock (.slice A' (m + 1) c') = some W.heap.size) →
      Hid (∀ w4, w'.grownBy w4 (Value.ownBlock (.slice A' (m + 1) c')) → w4.ownsRow base 53 2 (.slice A' (m + 1) c') (m + 1) (cP (zs ++ [(p, q)])) → W.grownBy w4 (Value.ownBlock (.slice A m c)) ∧ w4.ownsRow base 53 2 (.slice A m c) m (cP zs)) → K (a.put o.dst (.slice A' (m + 1) c')) w') :
    if Region.wanted o (yielded ops a.tmps) = true then Oper.wp Try.prog o a W K Q else E := by
  have hw : Region.wanted o (yielded ops a.tmps) = true := by simp [Region.wanted, hgd]
  rw [if_pos hw]
  have hrd := lit_pt_at hl
  obtain ⟨A', c', w', hrun, h2, h3, h5, h6⟩ := run_append_back (P := Try.prog) (w := W) base 29 o.type 53 _ 2 16 Try.underlying29 info_pt rfl (by decide) (.slice A m c) m (cP zs) hown ⟨g, 0, none⟩ 1 1 (cP [(p, q)]) rfl (by
    obtain ⟨ad, e, _, hc⟩ := hrd.2 (by omega)
    injection e with e; subst e; exact hc) (cP_one _) (by unfold maxLen; omega) (by omega) hbase
  unfold Oper.wp execOp
  simp only [ho, resolve, invoke, builtin, Sem.run_bind, Sem.run_pure, Result.andThen_ok, List.map_toArray, List.map_cons, List.map_nil, hs, hx, hrun]
  rw [show cP zs ++ cP [(p, q)] = cP (zs ++ [(p, q)]) by rw [cP_append]] at h2 h6
  exact h A' c' w' (Lib.hid h2) (Lib.hid h3) (Lib.hid h5) (Lib.hid h6)
end
theorem add_add (a : Addr) (i j : Nat) : (a.add i).add j = a.add (i + j) := by
  unfold Addr.add
  by_cases hi : i = 0
  · subst hi; simp
  · by_cases hj : j = 0
    · subst hj; simp [hi]
    · simp [hi, hj, Nat.add_assoc]
/-- points cut off at the front -/
theorem Rd.cutP {w : World} {hi n c k : Nat} {a : Addr} {ps : List Pt} (h : Rd w hi 2 (some a) n (cP ps)) (hnc : n ≤ c) (hk : k ≤ n) : Rd w hi 2 (if c = k then some a else some (a.add (k * 2))) (n - k) (cP (ps.drop k)) := by
  have hl := h.plen
  refine ⟨by rw [cP_length, List.length_drop]; omega, fun h0 => ?_⟩
  rw [if_neg (by omega)]
  obtain ⟨a', e, hb, hc⟩ := h.2 (by omega)
  injection e with e; subst e
  refine ⟨_, rfl, by rw [add_block]; exact hb, fun j u hj => ?_⟩
  rw [add_add]
  refine hc _ _ ?_
  rw [← hj, show ps = ps.take k ++ ps.drop k from (List.take_append_drop k ps).symm, cP_append, List.getElem?_append_right (by rw [cP_length, List.length_take]; omega), cP_length, List.length_take, List.drop_append_of_le_length (by rw [List.length_take]; omega)]
  have : (ps.take k).drop k = [] := List.drop_eq_nil_of_le (by rw [List.length_take]; omega)
  rw [this, List.nil_append]; congr 1; omega
theorem keepR {w w' : World} {row : Option Nat} {hi size n base : Nat} {A : Option Addr} {xs : List Value} (h : Rd w hi size A n xs) (hg : w.grownBy w' row) (hr : ∀ g, row = some g → base ≤ g) (hb : hi ≤ base) (hz : hi ≤ w.heap.size) : Rd w' hi size A n xs :=
  h.keep fun p hp => World.cell?_of_block (hg.block _ (by omega) (fun e => by have := hr _ e.symm; omega))
theorem row_base {w : World} {base n m c : Nat} {A : Option Addr} {xs : List Value} {t : TypeId} {s : Nat} (h : w.ownsRow base t s (.slice A m c) n xs) : ∀ g, Value.ownBlock (.slice A m c) = some g → base ≤ g ∧ g < w.heap.size := fun g e => h.lt g e

set_option maxHeartbeats 8000000 in
theorem i_try (A : Option Addr) (n c b1 base lo : Nat) (most : Int) (d : List Pt) (hdn : d.length = n) (hn : n ≤ 7) (hd : GL d) (hlo : lo ≤ base) (n2 : Nat) :
    ∀ (rest ch : List Pt) (A1 A2 : Option Addr) (m c1 c2 : Nat) (w : World), GL (ch ++ rest) → ch.length = m → m ≤ b1 → b1 ≤ 7 → rest.length = n2 → n2 ≤ 7 → n2 ≤ c2 → base ≤ w.heap.size → w.ownsRow base 53 2 (.slice A1 m c1) m (cP ch) → Rd w lo 2 A n (cP d) → Rd w lo 2 A2 n2 (cP rest) →
    Calls Try.prog 108 #[mdV A n c b1 most, .slice A1 m c1, .slice A2 n2 c2] w fun e w' => TryP (sF d b1 most rest ch) d w.heap.size e w' ∧ w.grownBy w' (Value.ownBlock (.slice A1 m c1)) ∧ w'.ownsRow base 53 2 (.slice A1 m c1) m (cP ch) := by
  have HD := Lib.hid hd
  have HDN := Lib.hid hdn
  have HXI : Hid (XIn d n) := Lib.hid (by have := hd.good.x0; rw [hdn] at this; exact this)
  clear hd hdn
  induction n2 using Nat.strongRecOn with
  | _ n2 ih =>
    intro rest ch A1 A2 m c1 c2 w hgl hlm hm hb7 hrl hn2 hc2 hbw hown h h2
    by_cases hleaf : m = b1
    · subst hleaf
      refine (i_try_leaf A A1 A2 n c m c1 n2 c2 most d ch w (h.more (by omega)) hn HXI.out (own_rd2 hown (Nat.le_refl _)) (hgl.sub (List.sublist_append_left ch rest)) (by omega)).mono ?_
      rintro e w' ⟨ht, hb⟩
      rw [sF_leaf hlm]
      exact ⟨ht, ⟨hb.os, hb.tape, hb.output, hb.size, fun k hk _ => hb.block k hk⟩, ownsRow_below hown hb⟩
    have HIH := Lib.hid ih
    have HGL := Lib.hid hgl
    have HLM := Lib.hid hlm
    have HRL := Lib.hid hrl
    have HNE : Hid (ch.length ≠ b1) := Lib.hid (by rw [hlm]; exact hleaf)
    have hq : ((m : Int) == (b1 : Int)) = false := by rw [beq_eq_false_iff_ne]; omega
    have hmb : m < b1 := by omega
    have HRB := Lib.hid (row_base hown)
    obtain ⟨W, hW⟩ : ∃ W, Hid (w.alloc (.cells #[.slice A n c, .int .i64 b1, .int .i64 most] 79) = W) := ⟨_, Lib.hid rfl⟩
    have HGW : Hid (w.grownBy W (Value.ownBlock (.slice A1 m c1))) := Lib.hid (by rw [← hW.out]; exact World.grownBy_alloc _ _ _)
    have HOW : Hid (W.ownsRow base 53 2 (.slice A1 m c1) m (cP ch)) := Lib.hid (by rw [← hW.out]; exact hown.alloc _)
    have hx : W.heap[w.heap.size]? = some (.cells #[.slice A n c, .int .i64 b1, .int .i64 most] 79 (0, 0)) := by rw [← hW.out]; exact heap_alloc_new _ _
    obtain ⟨hc0, hc1, hc2'⟩ := box3 W A n c b1 most _ hx
    have HX := Lib.hid hx
    have H := Lib.hid h
    have H2 := Lib.hid h2
    clear ih hgl hlm hrl hleaf hown hx h h2 hm
    go_enter Try.func108, Try.ntmps108
    go_wp2
    rw [hW.out]
    go_wp2
    clear hc0 hc1 hc2'
    go_loopw [19] (fun i wr => ∃ j : Nat, j ≤ n2 ∧ i = .int .i64 j ∧ Hid (sF d b1 most rest ch = sF d b1 most (rest.drop j) ch) ∧ Hid (w.grownBy wr (Value.ownBlock (.slice A1 m c1))) ∧ Hid (wr.ownsRow base 53 2 (.slice A1 m c1) m (cP ch)) ∧ Hid (wr.heap[w.heap.size]? = some (.cells #[.slice A n c, .int .i64 b1, .int .i64 most] 79 (0, 0)))) (fun i _ => n2 - (intOf i).toNat)
    case atStart => exact ⟨0, Nat.zero_le _, rfl, Lib.hid rfl, HGW, HOW, HX⟩
    case round =>
      clear HGW HOW HX
      obtain ⟨j, hj, rfl, HE, HG, HO, HBX⟩ := hrel
      by_cases hlt : j < n2
      · obtain ⟨a, x, y, rfl, hab, hx0, hy0, HP⟩ := H2.out.ptAt hlt
        have hne : ∀ p : Addr, p.block < lo → wr.cell? p = w.cell? p := fun p hp => World.cell?_of_block (HG.out.block _ (by omega) (fun e => by have := (HRB.out _ e.symm).1; omega))
        have hpx := (hne (a.add (j * 2)) (by rw [add_block]; exact hab)).trans hx0
        have hpy := (hne ⟨(a.add (j * 2)).block, (a.add (j * 2)).off + 1, none⟩ (by rw [add_block]; exact hab)).trans hy0
        have HDR : Hid (rest.drop j = (x, y) :: rest.drop (j + 1)) := Lib.hid (by rw [drop_step rest j (by rw [HRL.out]; exact hlt), HP.out])
        have HGN : Hid (GL ((ch ++ [(x, y)]) ++ rest.drop (j + 1))) := Lib.hid (HGL.out.sub (by
          rw [List.append_assoc, List.singleton_append, ← HDR.out]
          have := drop_sub rest ch (Nat.zero_le j)
          simpa using this))
        have HRr : Hid (Rd wr lo 2 (some a) n2 (cP rest)) := Lib.hid (H2.out.keep hne)
        have HRd : Hid (Rd wr lo 2 A n (cP d)) := Lib.hid (H.out.keep hne)
        have hzw := HG.out.size
        obtain ⟨A3, HA3⟩ : ∃ A3, Hid (A3 = if c2 = j + 1 then some a else some (a.add ((j + 1) * 2))) := ⟨_, Lib.hid rfl⟩
        have HR3 : Hid (Rd wr lo 2 A3 (n2 - (j + 1)) (cP (rest.drop (j + 1)))) := Lib.hid (by rw [HA3.out]; exact HRr.out.cutP hc2 hlt)
        clear hne hx0 hy0 HRr
        have i0 : (0 : Int) ≤ (j : Int) := by omega
        have i1 : (j : Int) < (n2 : Int) := by omega
        have i2 : (0 : Int) ≤ (j : Int) + 1 := by omega
        have i3 : (j : Int) + 1 ≤ (n2 : Int) := by omega
        have iw : IntKind.i64.wrap ((j : Int) + 1) = (j : Int) + 1 := IntWalk.i64_in _ (by omega)
        have it : ((j : Int) + 1).toNat = j + 1 := by omega
        go_wp2
        obtain ⟨W1, hW1⟩ : ∃ W1, Hid (wr.alloc (.cells #[.int .i64 x, .int .i64 y] 53) = W1) := ⟨_, Lib.hid rfl⟩
        rw [hW1.out]
        have hgz := (Array.getElem?_eq_some_iff.1 HBX.out).1
        have HBX1 : Hid (W1.heap[w.heap.size]? = some (.cells #[.slice A n c, .int .i64 b1, .int .i64 most] 79 (0, 0))) := Lib.hid (by rw [← hW1.out, Below.heap_alloc _ _ _ hgz]; exact HBX.out)
        have HPX1 : Hid (W1.heap[wr.heap.size]? = some (.cells #[.int .i64 x, .int .i64 y] 53 (0, 0))) := Lib.hid (by rw [← hW1.out]; exact heap_alloc_new _ _)
        have HG1 : Hid (w.grownBy W1 (Value.ownBlock (.slice A1 m c1))) := Lib.hid (by rw [← hW1.out]; exact HG.out.trans (World.grownBy_alloc _ _ _))
        have HO1 : Hid (W1.ownsRow base 53 2 (.slice A1 m c1) m (cP ch)) := Lib.hid (by rw [← hW1.out]; exact HO.out.alloc _)
        have HB1 : Hid (Below wr.heap.size wr W1) := Lib.hid (by rw [← hW1.out]; exact (Below.refl _ _).alloc (Nat.le_refl _) _)
        have HZ1 : Hid (W1.heap.size = wr.heap.size + 1) := Lib.hid (by rw [← hW1.out]; simp)
        obtain ⟨hc0, hc1, hc2'⟩ := box3 W1 A n c b1 most _ HBX1.out
        have hd0 : W1.cell? ⟨wr.heap.size, 0, none⟩ = some (.int .i64 x) := by rw [cell_of_row W1 _ 0 _ _ _ HPX1.out]; rfl
        have hd1 : W1.cell? ⟨wr.heap.size, 1, none⟩ = some (.int .i64 y) := by rw [cell_of_row W1 _ 1 _ _ _ HPX1.out]; rfl
        have hs0 := And.intro hc0 (And.intro hc1 (And.intro hc2' (And.intro hd0 hd1)))
        clear HBX HG HO hpx hpy
        cases hs : sF d b1 most (rest.drop (j + 1)) (ch ++ [(x, y)]) with
        | none =>
          have HSV : Hid (sF d b1 most (rest.drop (j + 1)) (ch ++ [(x, y)]) = none) := Lib.hid hs
          clear hs
          refine wp_region_held_drew (S := (fun w' => w'.cell? ⟨w.heap.size, 0, none⟩ = some (.slice A n c) ∧ w'.cell? ⟨w.heap.size, 1, none⟩ = some (.int .i64 b1) ∧ w'.cell? ⟨w.heap.size, 2, none⟩ = some (.int .i64 most) ∧ w'.cell? ⟨wr.heap.size, 0, none⟩ = some (.int .i64 x) ∧ w'.cell? ⟨wr.heap.size, 1, none⟩ = some (.int .i64 y))) (by kernel_rfl) hs0 (fun hHeld => ?_)
          refine wpAnyH_take (i := 0) (oi := { dst := some 24, op := Op.load 79 (Operand.tmp 3), type := 79, pos := "l5_mending.go:23", after := #[], guard := none }) (v := ?_) rfl (by kernel_rfl) (by kernel_rfl) (by kernel_rfl) (fun _ _ _ h => h) (Or.inl ⟨by rfl, ?_⟩) hHeld ?_
          rotate_left
          · intro w hSw; (try dsimp only at hSw); go_simp; (try with_reducible rfl)
          try simp only [Act.put, List.setIfInBounds_toArray, List.set_cons_zero, List.set_cons_succ]
          refine wpAnyH_take (i := 1) (oi := { dst := some 25, op := Op.move (Operand.tmp 1), type := 29, pos := "l5_mending.go:23", after := #[], guard := none }) (v := ?_) rfl (by kernel_rfl) (by kernel_rfl) (by kernel_rfl) (fun _ _ _ h => h) (Or.inl ⟨by rfl, ?_⟩) hHeld ?_
          rotate_left
          · intro w hSw; (try dsimp only at hSw); go_simp; (try with_reducible rfl)
          try simp only [Act.put, List.setIfInBounds_toArray, List.set_cons_zero, List.set_cons_succ]
          refine wpAnyH_take (i := 2) (oi := { dst := some 26, op := Op.load 53 (Operand.tmp 7), type := 53, pos := "l5_mending.go:23", after := #[], guard := none }) (v := ?_) rfl (by kernel_rfl) (by kernel_rfl) (by kernel_rfl) (fun _ _ _ h => h) (Or.inl ⟨by rfl, ?_⟩) hHeld ?_
          rotate_left
          · intro w hSw; (try dsimp only at hSw); go_simp; (try with_reducible rfl)
          try simp only [Act.put, List.setIfInBounds_toArray, List.set_cons_zero, List.set_cons_succ]
          refine wpAnyH_take (i := 5) (oi := { dst := some 29, op := Op.move (Operand.tmp 2), type := 29, pos := "l5_mending.go:23", after := #[], guard := none }) (v := ?_) rfl (by kernel_rfl) (by kernel_rfl) (by kernel_rfl) (fun _ _ _ h => h) (Or.inl ⟨by rfl, ?_⟩) hHeld ?_
          rotate_left
          · intro w hSw; (try dsimp only at hSw); go_simp; (try with_reducible rfl)
          try simp only [Act.put, List.setIfInBounds_toArray, List.set_cons_zero, List.set_cons_succ]
          refine wpAnyH_take (i := 6) (oi := { dst := some 30, op := Op.move (Operand.tmp 6), type := 3, pos := "l5_mending.go:23", after := #[], guard := none }) (v := ?_) rfl (by kernel_rfl) (by kernel_rfl) (by kernel_rfl) (fun _ _ _ h => h) (Or.inl ⟨by rfl, ?_⟩) hHeld ?_
          rotate_left
          · intro w hSw; (try dsimp only at hSw); go_simp; (try with_reducible rfl)
          try simp only [Act.put, List.setIfInBounds_toArray, List.set_cons_zero, List.set_cons_succ]
          refine wpAnyH_take (i := 7) (oi := { dst := some 31, op := Op.binOp BinOp.add 3 (Operand.tmp 30) (Operand.const (Value.int IntKind.i64 1)) 3, type := 3, pos := "l5_mending.go:23", after := #[{ on := 6, ground := Ground.data }], guard := none }) (v := ?_) rfl (by kernel_rfl) (by kernel_rfl) (by kernel_rfl) (fun _ _ _ h => h) (Or.inl ⟨by rfl, ?_⟩) hHeld ?_
          rotate_left
          · intro w hSw; (try dsimp only at hSw); go_simp; (try with_reducible rfl)
          try simp only [Act.put, List.setIfInBounds_toArray, List.set_cons_zero, List.set_cons_succ]
          refine wpAnyH_take (i := 8) (oi := { dst := some 32, op := Op.slice 29 (Operand.tmp 29) (some (Operand.tmp 31)) none none, type := 29, pos := "l5_mending.go:23", after := #[{ on := 5, ground := Ground.data }, { on := 7, ground := Ground.data }], guard := none }) (v := .slice A3 (n2 - (j + 1)) (c2 - (j + 1))) rfl (by kernel_rfl) (by kernel_rfl) (by kernel_rfl) (fun _ _ _ h => h) (Or.inl ⟨by rfl, ?_⟩) hHeld ?_
          · intro w hSw; clear hSw; go_simp; simp only [HA3.out]
          try simp only [Act.put, List.setIfInBounds_toArray, List.set_cons_zero, List.set_cons_succ]
          refine wpAnyH_ready (rs := [3]) (by kernel_rfl) (by simp) ?_
          refine AllReadyH.cons (o := { dst := some 27, op := Op.buildSlice 29 1 #[(0, Operand.tmp 26)], type := 29, pos := "l5_mending.go:23", after := #[{ on := 2, ground := Ground.data }], guard := none }) rfl (fun K hK => ?_) AllReadyH.nil
          go_simp
          obtain ⟨W2, hW2⟩ : ∃ W2, Hid ((W1.alloc (.cells #[.int .i64 x, .int .i64 y] 53)).drew = W2) := ⟨_, Lib.hid rfl⟩
          rw [hW2.out]
          have HAL : Hid (wr.grownBy W2 (Value.ownBlock (.slice A1 m c1))) := Lib.hid (by
            have h9 : wr.grownBy (W1.alloc (.cells #[.int .i64 x, .int .i64 y] 53)) (Value.ownBlock (.slice A1 m c1)) := by
              rw [← hW1.out]; exact (World.grownBy_alloc _ _ _).trans (World.grownBy_alloc _ _ _)
            rw [← hW2.out]; exact ⟨h9.os, h9.tape, h9.output, h9.size, h9.block⟩)
          have HG2 : Hid (w.grownBy W2 (Value.ownBlock (.slice A1 m c1))) := Lib.hid (by
            have h9 := HG1.out.trans (World.grownBy_alloc W1 (.cells #[.int .i64 x, .int .i64 y] 53) _)
            rw [← hW2.out]; exact ⟨h9.os, h9.tape, h9.output, h9.size, h9.block⟩)
          have HO2 : Hid (W2.ownsRow base 53 2 (.slice A1 m c1) m (cP ch)) := Lib.hid (by rw [← hW2.out]; exact HO1.out.alloc _)
          have HZ2 : Hid (W2.heap.size = W1.heap.size + 1) := Lib.hid (by rw [← hW2.out]; simp)
          have HBX2 : Hid (W2.heap[w.heap.size]? = some (.cells #[.slice A n c, .int .i64 b1, .int .i64 most] 79 (0, 0))) := Lib.hid (by rw [← hW2.out]; exact (Below.heap_alloc W1 _ _ (by have := HZ1.out; omega)).trans HBX1.out)
          have HPX2 : Hid (W2.heap[wr.heap.size]? = some (.cells #[.int .i64 x, .int .i64 y] 53 (0, 0))) := Lib.hid (by rw [← hW2.out]; exact (Below.heap_alloc W1 _ _ (by have := HZ1.out; omega)).trans HPX1.out)
          have HLX2 : Hid (W2.heap[W1.heap.size]? = some (.cells #[.int .i64 x, .int .i64 y] 53 (0, 0))) := Lib.hid (by rw [← hW2.out]; exact heap_alloc_new W1 _)
          refine hK.out _ _ ?_ (fun hHeld => ?_)
          · obtain ⟨e0, e1, e2⟩ := box3 W2 A n c b1 most _ HBX2.out
            exact ⟨e0, e1, e2, by rw [cell_of_row W2 _ 0 _ _ _ HPX2.out]; rfl, by rw [cell_of_row W2 _ 1 _ _ _ HPX2.out]; rfl⟩
          clear hK K
          try simp only [Act.put, List.setIfInBounds_toArray, List.set_cons_zero, List.set_cons_succ]
          refine wpAnyH_ready (rs := [4]) (by kernel_rfl) (by simp) ?_
          refine AllReadyH.cons (o := { dst := some 28, op := Op.call { callee := Callee.builtin Builtin.append, args := #[Operand.tmp 25, Operand.tmp 27], argTypes := #[29, 29] }, type := 29, pos := "l5_mending.go:23", after := #[{ on := 1, ground := Ground.data }, { on := 3, ground := Ground.data }], guard := none }) rfl (fun K hK => ?_) AllReadyH.nil
          refine step_back rfl (.tmp 25) (.tmp 27) rfl rfl rfl HO2.out HLX2.out (by omega) (by have := HZ2.out; have := HZ1.out; omega) ?_
          intro A4 c4 w3 h1 h2 h3 h4
          have HBX3 : Hid (w3.heap[w.heap.size]? = some (.cells #[.slice A n c, .int .i64 b1, .int .i64 most] 79 (0, 0))) := Lib.hid ((h2.out.block _ (Array.getElem?_eq_some_iff.1 HBX2.out).1 (fun e => by have := (HRB.out _ e.symm).2; omega)).trans HBX2.out)
          have HPX3 : Hid (w3.heap[wr.heap.size]? = some (.cells #[.int .i64 x, .int .i64 y] 53 (0, 0))) := Lib.hid ((h2.out.block _ (Array.getElem?_eq_some_iff.1 HPX2.out).1 (fun e => by have := (HRB.out _ e.symm).2; omega)).trans HPX2.out)
          have HGr : Hid (wr.grownBy w3 (Value.ownBlock (.slice A1 m c1))) := Lib.hid (HAL.out.trans h2.out)
          have HRd3 : Hid (Rd w3 lo 2 A n (cP d)) := Lib.hid (keepR HRd.out HGr.out (fun g e => (HRB.out g e).1) hlo (by omega))
          have HR33 : Hid (Rd w3 lo 2 A3 (n2 - (j + 1)) (cP (rest.drop (j + 1)))) := Lib.hid (keepR HR3.out HGr.out (fun g e => (HRB.out g e).1) hlo (by omega))
          have HZ3 : Hid (wr.heap.size ≤ w3.heap.size) := Lib.hid HGr.out.size
          refine hK.out _ _ ?_ (fun hHeld => ?_)
          · obtain ⟨e0, e1, e2⟩ := box3 w3 A n c b1 most _ HBX3.out
            exact ⟨e0, e1, e2, by rw [cell_of_row w3 _ 0 _ _ _ HPX3.out]; rfl, by rw [cell_of_row w3 _ 1 _ _ _ HPX3.out]; rfl⟩
          clear hK K
          try simp only [Act.put, List.setIfInBounds_toArray, List.set_cons_zero, List.set_cons_succ]
          refine wpAnyH_ready (rs := [9]) (by kernel_rfl) (by simp) ?_
          refine AllReadyH.cons (o := { dst := some 33, op := Op.call { callee := Callee.value (Operand.func 108), args := #[Operand.tmp 24, Operand.tmp 28, Operand.tmp 32], argTypes := #[79, 29, 29] }, type := 0, pos := "l5_mending.go:23", after := #[{ on := 0, ground := Ground.data }, { on := 4, ground := Ground.data }, { on := 8, ground := Ground.data }, { on := 4, ground := Ground.chain }], guard := none }) rfl (fun K hK => ?_) AllReadyH.nil
          go_simp
          refine (HIH.out (n2 - (j + 1)) (by omega) (rest.drop (j + 1)) (ch ++ [(x, y)]) A4 A3 (m + 1) c4 (c2 - (j + 1)) _ HGN.out (by rw [List.length_append, HLM.out]; rfl) (by omega) hb7 (by rw [List.length_drop, HRL.out]) (by omega) (by omega) (by have := HZ3.out; omega) h1.out HRd3.out HR33.out).mono ?_
          rintro e w4 ⟨ht, hg4, ho4⟩
          rw [HSV.out] at ht
          obtain ⟨hgb, hob⟩ := h4.out w4 hg4 ho4
          have HG4 : Hid (w.grownBy w4 (Value.ownBlock (.slice A1 m c1))) := Lib.hid (HG2.out.trans hgb)
          have HO4 := Lib.hid hob
          obtain rfl : e = .returned (.tuple #[]) := ht
          have HBX4 : Hid (w4.heap[w.heap.size]? = some (.cells #[.slice A n c, .int .i64 b1, .int .i64 most] 79 (0, 0))) := Lib.hid ((hgb.block _ (Array.getElem?_eq_some_iff.1 HBX2.out).1 (fun e => by have := (HRB.out _ e.symm).2; omega)).trans HBX2.out)
          have HPX4 : Hid (w4.heap[wr.heap.size]? = some (.cells #[.int .i64 x, .int .i64 y] 53 (0, 0))) := Lib.hid ((hgb.block _ (Array.getElem?_eq_some_iff.1 HPX2.out).1 (fun e => by have := (HRB.out _ e.symm).2; omega)).trans HPX2.out)
          have HE2 : Hid (sF d b1 most rest ch = sF d b1 most (rest.drop (j + 1)) ch) := Lib.hid (by rw [HE.out, HDR.out, sF_none HNE.out HSV.out])
          refine hK.out _ _ ?_ (fun hHeld => ?_)
          · obtain ⟨e0, e1, e2⟩ := box3 w4 A n c b1 most _ HBX4.out
            exact ⟨e0, e1, e2, by rw [cell_of_row w4 _ 0 _ _ _ HPX4.out]; rfl, by rw [cell_of_row w4 _ 1 _ _ _ HPX4.out]; rfl⟩
          clear hK K
          try simp only [Act.put, List.setIfInBounds_toArray, List.set_cons_zero, List.set_cons_succ]
          refine wpAnyH_done (by kernel_rfl) ?_ _
          clear hHeld hs0 hgb hob hg4 ho4 h1 h2 h3 h4 iw it hc0 hc1 hc2' hd0 hd1
          go_wp2
          go_roundw
          case rel => exact ⟨j + 1, by omega, by go_num, HE2, HG4, HO4, HBX4⟩
          case measure => simp [intOf] <;> omega

        | some p =>
          have HSV : Hid (sF d b1 most (rest.drop (j + 1)) (ch ++ [(x, y)]) = some p) := Lib.hid hs
          clear hs
          refine wp_region_held_drew (S := (fun w' => w'.cell? ⟨w.heap.size, 0, none⟩ = some (.slice A n c) ∧ w'.cell? ⟨w.heap.size, 1, none⟩ = some (.int .i64 b1) ∧ w'.cell? ⟨w.heap.size, 2, none⟩ = some (.int .i64 most) ∧ w'.cell? ⟨wr.heap.size, 0, none⟩ = some (.int .i64 x) ∧ w'.cell? ⟨wr.heap.size, 1, none⟩ = some (.int .i64 y))) (by kernel_rfl) hs0 (fun hHeld => ?_)
          refine wpAnyH_take (i := 0) (oi := { dst := some 24, op := Op.load 79 (Operand.tmp 3), type := 79, pos := "l5_mending.go:23", after := #[], guard := none }) (v := ?_) rfl (by kernel_rfl) (by kernel_rfl) (by kernel_rfl) (fun _ _ _ h => h) (Or.inl ⟨by rfl, ?_⟩) hHeld ?_
          rotate_left
          · intro w hSw; (try dsimp only at hSw); go_simp; (try with_reducible rfl)
          try simp only [Act.put, List.setIfInBounds_toArray, List.set_cons_zero, List.set_cons_succ]
          refine wpAnyH_take (i := 1) (oi := { dst := some 25, op := Op.move (Operand.tmp 1), type := 29, pos := "l5_mending.go:23", after := #[], guard := none }) (v := ?_) rfl (by kernel_rfl) (by kernel_rfl) (by kernel_rfl) (fun _ _ _ h => h) (Or.inl ⟨by rfl, ?_⟩) hHeld ?_
          rotate_left
          · intro w hSw; (try dsimp only at hSw); go_simp; (try with_reducible rfl)
          try simp only [Act.put, List.setIfInBounds_toArray, List.set_cons_zero, List.set_cons_succ]
          refine wpAnyH_take (i := 2) (oi := { dst := some 26, op := Op.load 53 (Operand.tmp 7), type := 53, pos := "l5_mending.go:23", after := #[], guard := none }) (v := ?_) rfl (by kernel_rfl) (by kernel_rfl) (by kernel_rfl) (fun _ _ _ h => h) (Or.inl ⟨by rfl, ?_⟩) hHeld ?_
          rotate_left
          · intro w hSw; (try dsimp only at hSw); go_simp; (try with_reducible rfl)
          try simp only [Act.put, List.setIfInBounds_toArray, List.set_cons_zero, List.set_cons_succ]
          refine wpAnyH_take (i := 5) (oi := { dst := some 29, op := Op.move (Operand.tmp 2), type := 29, pos := "l5_mending.go:23", after := #[], guard := none }) (v := ?_) rfl (by kernel_rfl) (by kernel_rfl) (by kernel_rfl) (fun _ _ _ h => h) (Or.inl ⟨by rfl, ?_⟩) hHeld ?_
          rotate_left
          · intro w hSw; (try dsimp only at hSw); go_simp; (try with_reducible rfl)
          try simp only [Act.put, List.setIfInBounds_toArray, List.set_cons_zero, List.set_cons_succ]
          refine wpAnyH_take (i := 6) (oi := { dst := some 30, op := Op.move (Operand.tmp 6), type := 3, pos := "l5_mending.go:23", after := #[], guard := none }) (v := ?_) rfl (by kernel_rfl) (by kernel_rfl) (by kernel_rfl) (fun _ _ _ h => h) (Or.inl ⟨by rfl, ?_⟩) hHeld ?_
          rotate_left
          · intro w hSw; (try dsimp only at hSw); go_simp; (try with_reducible rfl)
          try simp only [Act.put, List.setIfInBounds_toArray, List.set_cons_zero, List.set_cons_succ]
          refine wpAnyH_take (i := 7) (oi := { dst := some 31, op := Op.binOp BinOp.add 3 (Operand.tmp 30) (Operand.const (Value.int IntKind.i64 1)) 3, type := 3, pos := "l5_mending.go:23", after := #[{ on := 6, ground := Ground.data }], guard := none }) (v := ?_) rfl (by kernel_rfl) (by kernel_rfl) (by kernel_rfl) (fun _ _ _ h => h) (Or.inl ⟨by rfl, ?_⟩) hHeld ?_
          rotate_left
          · intro w hSw; (try dsimp only at hSw); go_simp; (try with_reducible rfl)
          try simp only [Act.put, List.setIfInBounds_toArray, List.set_cons_zero, List.set_cons_succ]
          refine wpAnyH_take (i := 8) (oi := { dst := some 32, op := Op.slice 29 (Operand.tmp 29) (some (Operand.tmp 31)) none none, type := 29, pos := "l5_mending.go:23", after := #[{ on := 5, ground := Ground.data }, { on := 7, ground := Ground.data }], guard := none }) (v := .slice A3 (n2 - (j + 1)) (c2 - (j + 1))) rfl (by kernel_rfl) (by kernel_rfl) (by kernel_rfl) (fun _ _ _ h => h) (Or.inl ⟨by rfl, ?_⟩) hHeld ?_
          · intro w hSw; clear hSw; go_simp; simp only [HA3.out]
          try simp only [Act.put, List.setIfInBounds_toArray, List.set_cons_zero, List.set_cons_succ]
          refine wpAnyH_ready (rs := [3]) (by kernel_rfl) (by simp) ?_
          refine AllReadyH.cons (o := { dst := some 27, op := Op.buildSlice 29 1 #[(0, Operand.tmp 26)], type := 29, pos := "l5_mending.go:23", after := #[{ on := 2, ground := Ground.data }], guard := none }) rfl (fun K hK => ?_) AllReadyH.nil
          go_simp
          obtain ⟨W2, hW2⟩ : ∃ W2, Hid ((W1.alloc (.cells #[.int .i64 x, .int .i64 y] 53)).drew = W2) := ⟨_, Lib.hid rfl⟩
          rw [hW2.out]
          have HAL : Hid (wr.grownBy W2 (Value.ownBlock (.slice A1 m c1))) := Lib.hid (by
            have h9 : wr.grownBy (W1.alloc (.cells #[.int .i64 x, .int .i64 y] 53)) (Value.ownBlock (.slice A1 m c1)) := by
              rw [← hW1.out]; exact (World.grownBy_alloc _ _ _).trans (World.grownBy_alloc _ _ _)
            rw [← hW2.out]; exact ⟨h9.os, h9.tape, h9.output, h9.size, h9.block⟩)
          have HG2 : Hid (w.grownBy W2 (Value.ownBlock (.slice A1 m c1))) := Lib.hid (by
            have h9 := HG1.out.trans (World.grownBy_alloc W1 (.cells #[.int .i64 x, .int .i64 y] 53) _)
            rw [← hW2.out]; exact ⟨h9.os, h9.tape, h9.output, h9.size, h9.block⟩)
          have HO2 : Hid (W2.ownsRow base 53 2 (.slice A1 m c1) m (cP ch)) := Lib.hid (by rw [← hW2.out]; exact HO1.out.alloc _)
          have HZ2 : Hid (W2.heap.size = W1.heap.size + 1) := Lib.hid (by rw [← hW2.out]; simp)
          have HBX2 : Hid (W2.heap[w.heap.size]? = some (.cells #[.slice A n c, .int .i64 b1, .int .i64 most] 79 (0, 0))) := Lib.hid (by rw [← hW2.out]; exact (Below.heap_alloc W1 _ _ (by have := HZ1.out; omega)).trans HBX1.out)
          have HPX2 : Hid (W2.heap[wr.heap.size]? = some (.cells #[.int .i64 x, .int .i64 y] 53 (0, 0))) := Lib.hid (by rw [← hW2.out]; exact (Below.heap_alloc W1 _ _ (by have := HZ1.out; omega)).trans HPX1.out)
          have HLX2 : Hid (W2.heap[W1.heap.size]? = some (.cells #[.int .i64 x, .int .i64 y] 53 (0, 0))) := Lib.hid (by rw [← hW2.out]; exact heap_alloc_new W1 _)
          refine hK.out _ _ ?_ (fun hHeld => ?_)
          · obtain ⟨e0, e1, e2⟩ := box3 W2 A n c b1 most _ HBX2.out
            exact ⟨e0, e1, e2, by rw [cell_of_row W2 _ 0 _ _ _ HPX2.out]; rfl, by rw [cell_of_row W2 _ 1 _ _ _ HPX2.out]; rfl⟩
          clear hK K
          try simp only [Act.put, List.setIfInBounds_toArray, List.set_cons_zero, List.set_cons_succ]
          refine wpAnyH_ready (rs := [4]) (by kernel_rfl) (by simp) ?_
          refine AllReadyH.cons (o := { dst := some 28, op := Op.call { callee := Callee.builtin Builtin.append, args := #[Operand.tmp 25, Operand.tmp 27], argTypes := #[29, 29] }, type := 29, pos := "l5_mending.go:23", after := #[{ on := 1, ground := Ground.data }, { on := 3, ground := Ground.data }], guard := none }) rfl (fun K hK => ?_) AllReadyH.nil
          refine step_back rfl (.tmp 25) (.tmp 27) rfl rfl rfl HO2.out HLX2.out (by omega) (by have := HZ2.out; have := HZ1.out; omega) ?_
          intro A4 c4 w3 h1 h2 h3 h4
          have HBX3 : Hid (w3.heap[w.heap.size]? = some (.cells #[.slice A n c, .int .i64 b1, .int .i64 most] 79 (0, 0))) := Lib.hid ((h2.out.block _ (Array.getElem?_eq_some_iff.1 HBX2.out).1 (fun e => by have := (HRB.out _ e.symm).2; omega)).trans HBX2.out)
          have HPX3 : Hid (w3.heap[wr.heap.size]? = some (.cells #[.int .i64 x, .int .i64 y] 53 (0, 0))) := Lib.hid ((h2.out.block _ (Array.getElem?_eq_some_iff.1 HPX2.out).1 (fun e => by have := (HRB.out _ e.symm).2; omega)).trans HPX2.out)
          have HGr : Hid (wr.grownBy w3 (Value.ownBlock (.slice A1 m c1))) := Lib.hid (HAL.out.trans h2.out)
          have HRd3 : Hid (Rd w3 lo 2 A n (cP d)) := Lib.hid (keepR HRd.out HGr.out (fun g e => (HRB.out g e).1) hlo (by omega))
          have HR33 : Hid (Rd w3 lo 2 A3 (n2 - (j + 1)) (cP (rest.drop (j + 1)))) := Lib.hid (keepR HR3.out HGr.out (fun g e => (HRB.out g e).1) hlo (by omega))
          have HZ3 : Hid (wr.heap.size ≤ w3.heap.size) := Lib.hid HGr.out.size
          refine hK.out _ _ ?_ (fun hHeld => ?_)
          · obtain ⟨e0, e1, e2⟩ := box3 w3 A n c b1 most _ HBX3.out
            exact ⟨e0, e1, e2, by rw [cell_of_row w3 _ 0 _ _ _ HPX3.out]; rfl, by rw [cell_of_row w3 _ 1 _ _ _ HPX3.out]; rfl⟩
          clear hK K
          try simp only [Act.put, List.setIfInBounds_toArray, List.set_cons_zero, List.set_cons_succ]
          refine wpAnyH_ready (rs := [9]) (by kernel_rfl) (by simp) ?_
          refine AllReadyH.cons (o := { dst := some 33, op := Op.call { callee := Callee.value (Operand.func 108), args := #[Operand.tmp 24, Operand.tmp 28, Operand.tmp 32], argTypes := #[79, 29, 29] }, type := 0, pos := "l5_mending.go:23", after := #[{ on := 0, ground := Ground.data }, { on := 4, ground := Ground.data }, { on := 8, ground := Ground.data }, { on := 4, ground := Ground.chain }], guard := none }) rfl (fun K hK => ?_) AllReadyH.nil
          go_simp
          refine (HIH.out (n2 - (j + 1)) (by omega) (rest.drop (j + 1)) (ch ++ [(x, y)]) A4 A3 (m + 1) c4 (c2 - (j + 1)) _ HGN.out (by rw [List.length_append, HLM.out]; rfl) (by omega) hb7 (by rw [List.length_drop, HRL.out]) (by omega) (by omega) (by have := HZ3.out; omega) h1.out HRd3.out HR33.out).mono ?_
          rintro e w4 ⟨ht, hg4, ho4⟩
          rw [HSV.out] at ht
          obtain ⟨hgb, hob⟩ := h4.out w4 hg4 ho4
          have HG4 : Hid (w.grownBy w4 (Value.ownBlock (.slice A1 m c1))) := Lib.hid (HG2.out.trans hgb)
          have HO4 := Lib.hid hob
          obtain ⟨v4, rfl, hov⟩ := ht
          have HF : Hid (sF d b1 most rest ch = some p) := Lib.hid (by rw [HE.out, HDR.out, sF_some HNE.out HSV.out])
          have HOV := Lib.hid (hov.widen (show w.heap.size ≤ w3.heap.size by have := HZ3.out; omega) (Nat.le_refl _))
          clear hs0 hgb hob hg4 ho4 h1 h2 h3 h4 iw it hc0 hc1 hc2' hd0 hd1 hov hK
          go_wp2
          exact ⟨rfl, by rw [HF.out]; exact ⟨_, rfl, HOV.out⟩, HG4.out, HO4.out⟩

      · obtain rfl : n2 = j := by omega
        have HF : Hid (sF d b1 most rest ch = none) := Lib.hid (by
          rw [HE.out, List.drop_eq_nil_of_le (by rw [HRL.out]; exact Nat.le_refl _), sF_nil HNE.out])
        go_wp2
        go_end0
        exact ⟨by rw [HF.out]; rfl, HG.out, HO.out⟩
end Go.Proofs.Ytjpjmlcmaombnaa
