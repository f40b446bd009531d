/- Chapter 15: the program's iterator over the proofs that are feigned. Made by tools/gen15/p2.py. -/
import Derived.Test.YtdhakbpimbadgaaWalk16l
import Derived.Test.YtdhakbpimbadgaaWalk15i
import Derived.Test.YtdhakbpimbadgaaFTwin
import Derived.RangeFuncNested
import Derived.RangeFuncCalls
import Derived.RangeFuncLeaves
import Derived.Shelf.Abstract
import Derived.OwnWalkIn
import Derived.TacticsInMore
import Derived.LoopNIn
import Derived.LoopIn
import Derived.Sort.CutIn
namespace Go.Proofs.Ytdhakbpimbadgaa
open Go.RowKit Go.Shelf
set_option maxRecDepth 100000
attribute [local go_sem] Oper.semAt_some

def encOT (x : Nat × Tw) : Array Value := #[.int .i64 x.1, .agg #[.int .i64 x.2.1, .int .i64 x.2.2.1, .int .i64 x.2.2.2.1, .int .i64 x.2.2.2.2]]
/-- the iterator's boxes: tape, index, closure -/
def OBxT (Bt Bo Bf : Nat) (tv : Value) (q : Nat) (fv : Value) (W : World) : Prop := Bx W Bt #[tv] 22 ∧ Bx W Bo #[.int .i64 q] 3 ∧ Bx W Bf #[fv] 121
theorem KpP_bT {n₀ Bt Bo Bf q : Nat} {tv fv : Value} {w : World} (hn : n₀ ≤ w.heap.size) (W : World) (l : Nat) (o o' : Obj) (hl : w.heap.size ≤ l) (h : W.heap[l]? = some o) (hc : o.isCells = false) (hw : o.isWalk = false) : KpP n₀ (OBxT Bt Bo Bf tv q fv) W (W.putObj l o') :=
  ⟨belowK_b hn W l o o' hl h hc hw, fun hb => ⟨bx_putObj hb.1 h hc, bx_putObj hb.2.1 h hc, bx_putObj hb.2.2 h hc⟩⟩
theorem OBxT.grown {Bt Bo Bf q : Nat} {tv fv : Value} {W W' : World} (h : OBxT Bt Bo Bf tv q fv W) (hb : Below W.heap.size W W') : OBxT Bt Bo Bf tv q fv W' := ⟨h.1.below hb h.1.lt, h.2.1.below hb h.2.1.lt, h.2.2.below hb h.2.2.lt⟩

set_option maxHeartbeats 4000000 in
theorem i_it_othT (Bk Bc Bt Bo Bf l n₀ n q m nt ct : Nat) (At : Option Addr) (ks tp : List Int) (tag : Int) (hm : 1 ≤ m) (w0 : World)
    (hF : ∀ W k c r, Below n₀ w0 W → k < n → 0 ≤ c → c ≤ 112 → 0 ≤ r → r ≤ 112 → Calls Try.prog 60 #[.int .i64 (k : Nat), .agg #[.int .i64 c, .int .i64 r], .pointer (some ⟨Bk, 0, none⟩), .pointer (some ⟨Bc, 0, none⟩)] W fun e W' => e = .returned (.agg #[.int .i64 (backI 4 (ks.getD k 0) r c), .int .i64 (backI 9 tag r c), .int .i64 c, .int .i64 r]) ∧ Below W.heap.size W W')
    (hn : n ≤ 6) (hnt : nt = 2 * n) (hT : Rd w0 n₀ 1 At nt (cI tp)) (hN : numsB tp = true) (J Jx : List (Fin n) → World → Prop) (W : World) (hJ : AbidesFrom W.heap.size J)
    (hY : ∀ pre x W1, J pre W1 → pre.length < n → YieldAt Fence.wide (m - 1) Try.prog l (encOT (x.1, lotherT ks tag tp x.1)) W1 fun e W' =>
      (e = .returned (.bool true) ∧ J (pre ++ [x]) W' ∧ KpP n₀ (OBxT Bt Bo Bf (.slice At nt ct) q (.func (.func 60) #[] #[.pointer (some ⟨Bk, 0, none⟩), .pointer (some ⟨Bc, 0, none⟩)])) W1 W') ∨ (e = .returned (.bool false) ∧ Jx (pre ++ [x]) W'))
    (hB : OBxT Bt Bo Bf (.slice At nt ct) q (.func (.func 60) #[] #[.pointer (some ⟨Bk, 0, none⟩), .pointer (some ⟨Bc, 0, none⟩)]) W) (hn₀ : n₀ ≤ W.heap.size) (hbel : Below n₀ w0 W) (h0 : J [] W) :
    CallsIn Fence.wide m Try.prog 116 #[.func (.yield l) #[] #[], .pointer (some ⟨Bt, 0, none⟩), .pointer (some ⟨Bo, 0, none⟩), .pointer (some ⟨Bf, 0, none⟩)] W fun e W' => (∃ v, e = .returned v) ∧
      ((∃ ys, ys = othF n q n ∧ J ys W') ∨ (∃ pre, True ∧ Jx pre W')) := by
  have hm1 : 1 ≤ m := hm
  have HTP := Lib.hid hT
  have HNT := Lib.hid hnt
  have HLT : Hid (tp.length = nt) := Lib.hid hT.len
  have HNU := Lib.hid hN
  have HFF := Lib.hid hF
  have HYY := Lib.hid hY
  have hquo : (nt : Int).tdiv 2 = (n : Int) := by rw [Int.tdiv_eq_ediv_of_nonneg (by omega)]; omega
  have ct0 : W.cell? ⟨Bt, 0, none⟩ = some (.slice At nt ct) := hB.1.cell 0
  clear hT hnt hN hF hY
  refine callsIn_of_wp Try.func116 rfl trivial ?_ rfl
  simp only [Try.ntmps116, List.size_toArray, List.length_cons, List.length_nil, Nat.reduceAdd, Nat.reduceSub, Array.replicate_succ, Array.replicate_zero, List.push_toArray, List.append_toArray, List.nil_append, List.cons_append]
  gi_wp2
  gi_loopw [10] (fun i wr => ∃ k : Nat, k ≤ n ∧ i = .int .i64 k ∧ J (othF n q k) wr ∧ Hid (Below n₀ w0 wr) ∧ Hid (n₀ ≤ wr.heap.size) ∧ Hid (OBxT Bt Bo Bf (.slice At nt ct) q (.func (.func 60) #[] #[.pointer (some ⟨Bk, 0, none⟩), .pointer (some ⟨Bc, 0, none⟩)]) wr))
    (fun i _ => n - (intOf i).toNat)
  case atStart => exact ⟨0, Nat.zero_le _, rfl, h0, Lib.hid hbel, Lib.hid hn₀, Lib.hid hB⟩
  case round =>
    obtain ⟨k, hk, rfl, hJs, HBL, HZ, HBS⟩ := hrel
    by_cases hlt : k < n
    · have i0 : (0 : Int) ≤ (k : Int) := by omega
      have i1 : (k : Int) < (n : Int) := by omega
      have co : wr.cell? ⟨Bo, 0, none⟩ = some (.int .i64 q) := HBS.out.2.1.cell 0
      by_cases hkq : k = q
      · have e1 : ((k : Int) == (q : Int)) = true := by simp [hkq]
        have e2 : (k : Int) = (q : Int) := by omega
        have HS : Hid (othF n q (k + 1) = othF n q k) := Lib.hid (by rw [hkq]; exact othF_same n q)
        clear hkq
        gi_wp2
        go_roundw
        case rel => exact ⟨k + 1, by omega, by go_num, by rw [HS.out]; exact hJs, HBL, HZ, HBS⟩
        case measure => simp [intOf] <;> omega
      · have e2 : ¬ (k : Int) = (q : Int) := by omega
        have e1 : ((k : Int) == (q : Int)) = false := by rw [beq_eq_false_iff_ne]; exact e2
        have HS : Hid (othF n q (k + 1) = othF n q k ++ [⟨k, hlt⟩]) := Lib.hid (othF_succ n q k hlt hkq)
        clear hkq
        obtain ⟨J2, HJ⟩ : ∃ J2, Hid (J2 = 2 * k) := ⟨_, Lib.hid rfl⟩
        have hJ0 : J2 < nt := by have := HJ.out; have := HNT.out; omega
        have hJ1 : J2 + 1 < nt := by have := HJ.out; have := HNT.out; omega
        obtain ⟨b, t0, rfl, hbb, ht0, HT0⟩ := HTP.out.intAt hJ0
        obtain ⟨b2, t1, eb, _, ht1, HT1⟩ := HTP.out.intAt hJ1
        injection eb with eb
        subst eb
        rw [add_succ5] at ht1
        have hzw := HZ.out
        have hbb1 : (b.add J2).block < wr.heap.size := by rw [add_block]; omega
        have hbb2 : b.block < wr.heap.size := by omega
        have HTA := Lib.hid ((HBL.out.cell (p := b.add J2) (by rw [add_block]; exact hbb)).trans ht0)
        have HTB := Lib.hid ((HBL.out.cell (p := ⟨b.block, b.off + (J2 + 1), none⟩) hbb).trans ht1)
        have tb0 := numsB_at5 HNU.out (k := J2) (by have := HLT.out; omega)
        have tb1 := numsB_at5 HNU.out (k := J2 + 1) (by have := HLT.out; omega)
        rw [← HT0.out] at tb0
        rw [← HT1.out] at tb1
        obtain ⟨t00, t01⟩ := tb0
        obtain ⟨t10, t11⟩ := tb1
        have HOP : Hid (lotherT ks tag tp k = (backI 4 (ks.getD k 0) t1 t0, backI 9 tag t1 t0, t0, t1)) := Lib.hid (by rw [lotherT, ← HJ.out, ← HT0.out, ← HT1.out])
        have iw : IntKind.i64.wrap (2 * (k : Int)) = (J2 : Int) := by
          have := HJ.out
          have e : (J2 : Int) = 2 * (k : Int) := by omega
          rw [e]; exact IntWalk.i64_in _ (by omega)
        have iw2 : IntKind.i64.wrap ((J2 : Int) + 1) = (J2 : Int) + 1 := IntWalk.i64_in _ (by have := HNT.out; omega)
        have it2 : ((J2 : Int) + 1).toNat = J2 + 1 := by omega
        have i2 : (0 : Int) ≤ (J2 : Int) := by omega
        have i3 : (J2 : Int) < (nt : Int) := by omega
        have i4 : (0 : Int) ≤ (J2 : Int) + 1 := by omega
        have i5 : (J2 : Int) + 1 < (nt : Int) := by omega
        have HB : Hid (Below wr.heap.size wr wr) := Lib.hid (Below.refl _ _)
        have HX_tp : Hid (Bx wr Bt #[.slice (some b) nt ct] 22) := Lib.hid HBS.out.1
        have hBt := HX_tp.out.lt
        have HF4 : Hid (∀ W, Below n₀ w0 W → Calls Try.prog 60 #[.int .i64 (k : Nat), .agg #[.int .i64 t0, .int .i64 t1], .pointer (some ⟨Bk, 0, none⟩), .pointer (some ⟨Bc, 0, none⟩)] W fun e W' => e = .returned (.agg #[.int .i64 (backI 4 (ks.getD k 0) t1 t0), .int .i64 (backI 9 tag t1 t0), .int .i64 t0, .int .i64 t1]) ∧ Below W.heap.size W W') := Lib.hid (fun W hb => HFF.out W k t0 t1 hb hlt t00 t01 t10 t11)
        obtain ⟨bk, hbk⟩ : ∃ v, Hid (backI 4 (ks.getD k 0) t1 t0 = v) := ⟨_, Lib.hid rfl⟩
        obtain ⟨bh, hbh⟩ : ∃ v, Hid (backI 9 tag t1 t0 = v) := ⟨_, Lib.hid rfl⟩
        rw [hbk.out, hbh.out] at HF4 HOP
        clear ht0 ht1 HT0 HT1 hJ0 hJ1 hbk hbh HFF
        gi_upto_region 4 with (fail)
        clear co ct0
        refine wpIn_wide.2 ?_
        refine wp_region_held_drew (S := fun w' => w'.cell? ⟨Bt, 0, none⟩ = some (.slice (some b) nt ct) ∧ w'.cell? (b.add J2) = some (.int .i64 t0) ∧ w'.cell? ⟨b.block, b.off + (J2 + 1), none⟩ = some (.int .i64 t1)) (by kernel_rfl) ⟨HX_tp.out.cell 0, (HB.out.cell (p := (b.add J2)) hbb1).trans HTA.out, (HB.out.cell (p := ⟨b.block, b.off + (J2 + 1), none⟩) hbb2).trans HTB.out⟩ (fun hHeld => ?_)
        obtain ⟨u0, hu0⟩ : ∃ u0, Hid (wr.drew = u0) := ⟨_, Lib.hid rfl⟩
        rw [hu0.out] at hHeld ⊢
        have zs0 : wr.heap.size = u0.heap.size := by rw [← hu0.out]; rfl
        replace zs0 := Nat.le_of_eq zs0
        have HBl0 : Hid (Below wr.heap.size wr u0) := Lib.hid (by rw [← hu0.out]; exact HB.out.drew)
        have HX_tp0 : Hid (Bx u0 Bt #[.slice (some b) nt ct] 22) := Lib.hid (by rw [← hu0.out]; exact HX_tp.out)
        clear hu0
        refine wpAnyH_take (i := 0) (oi := { dst := some 16, op := Op.load 22 (Operand.tmp 1), type := 22, pos := "l15_either.go:34", after := #[], guard := none }) (v := ?_) rfl (by kernel_rfl) (by kernel_rfl) (by kernel_rfl) (fun _ _ _ h => h) (Or.inl ⟨by rfl, ?_⟩) hHeld ?_
        rotate_left
        · intro w hSw; obtain ⟨s0, s1, s2⟩ := hSw; (try dsimp only at hSw); go_simp; (try with_reducible rfl)
        try simp only [Act.put, List.setIfInBounds_toArray, List.set_cons_zero, List.set_cons_succ]
        refine wpAnyH_take (i := 1) (oi := { dst := some 17, op := Op.move (Operand.tmp 5), type := 3, pos := "l15_either.go:34", after := #[], guard := none }) (v := ?_) rfl (by kernel_rfl) (by kernel_rfl) (by kernel_rfl) (fun _ _ _ h => h) (Or.inl ⟨by rfl, ?_⟩) hHeld ?_
        rotate_left
        · intro w hSw; obtain ⟨s0, s1, s2⟩ := hSw; (try dsimp only at hSw); go_simp; (try with_reducible rfl)
        try simp only [Act.put, List.setIfInBounds_toArray, List.set_cons_zero, List.set_cons_succ]
        refine wpAnyH_take (i := 2) (oi := { dst := some 18, op := Op.binOp BinOp.mul 3 (Operand.const (Value.int IntKind.i64 2)) (Operand.tmp 17) 3, type := 3, pos := "l15_either.go:34", after := #[{ on := 1, ground := Ground.data }], guard := none }) (v := ?_) rfl (by kernel_rfl) (by kernel_rfl) (by kernel_rfl) (fun _ _ _ h => h) (Or.inl ⟨by rfl, ?_⟩) hHeld ?_
        rotate_left
        · intro w hSw; obtain ⟨s0, s1, s2⟩ := hSw; (try dsimp only at hSw); go_simp; (try with_reducible rfl)
        try simp only [Act.put, List.setIfInBounds_toArray, List.set_cons_zero, List.set_cons_succ]
        refine wpAnyH_take (i := 3) (oi := { dst := some 19, op := Op.indexAddr 22 (Operand.tmp 16) (Operand.tmp 18), type := 0, pos := "l15_either.go:34", after := #[{ on := 0, ground := Ground.data }, { on := 2, ground := Ground.data }], guard := none }) (v := ?_) rfl (by kernel_rfl) (by kernel_rfl) (by kernel_rfl) (fun _ _ _ h => h) (Or.inl ⟨by rfl, ?_⟩) hHeld ?_
        rotate_left
        · intro w hSw; obtain ⟨s0, s1, s2⟩ := hSw; (try dsimp only at hSw); go_simp; (try with_reducible rfl)
        try simp only [Act.put, List.setIfInBounds_toArray, List.set_cons_zero, List.set_cons_succ]
        refine wpAnyH_take (i := 4) (oi := { dst := some 20, op := Op.load 3 (Operand.tmp 19), type := 3, pos := "l15_either.go:34", after := #[{ on := 3, ground := Ground.data }], guard := none }) (v := ?_) rfl (by kernel_rfl) (by kernel_rfl) (by kernel_rfl) (fun _ _ _ h => h) (Or.inl ⟨by rfl, ?_⟩) hHeld ?_
        rotate_left
        · intro w hSw; obtain ⟨s0, s1, s2⟩ := hSw; (try dsimp only at hSw); go_simp; (try with_reducible rfl)
        try simp only [Act.put, List.setIfInBounds_toArray, List.set_cons_zero, List.set_cons_succ]
        refine wpAnyH_take (i := 5) (oi := { dst := some 21, op := Op.load 22 (Operand.tmp 1), type := 22, pos := "l15_either.go:34", after := #[], guard := none }) (v := ?_) rfl (by kernel_rfl) (by kernel_rfl) (by kernel_rfl) (fun _ _ _ h => h) (Or.inl ⟨by rfl, ?_⟩) hHeld ?_
        rotate_left
        · intro w hSw; obtain ⟨s0, s1, s2⟩ := hSw; (try dsimp only at hSw); go_simp; (try with_reducible rfl)
        try simp only [Act.put, List.setIfInBounds_toArray, List.set_cons_zero, List.set_cons_succ]
        refine wpAnyH_take (i := 6) (oi := { dst := some 22, op := Op.move (Operand.tmp 5), type := 3, pos := "l15_either.go:34", after := #[], guard := none }) (v := ?_) rfl (by kernel_rfl) (by kernel_rfl) (by kernel_rfl) (fun _ _ _ h => h) (Or.inl ⟨by rfl, ?_⟩) hHeld ?_
        rotate_left
        · intro w hSw; obtain ⟨s0, s1, s2⟩ := hSw; (try dsimp only at hSw); go_simp; (try with_reducible rfl)
        try simp only [Act.put, List.setIfInBounds_toArray, List.set_cons_zero, List.set_cons_succ]
        refine wpAnyH_take (i := 7) (oi := { dst := some 23, op := Op.binOp BinOp.mul 3 (Operand.const (Value.int IntKind.i64 2)) (Operand.tmp 22) 3, type := 3, pos := "l15_either.go:34", after := #[{ on := 6, ground := Ground.data }], guard := none }) (v := ?_) rfl (by kernel_rfl) (by kernel_rfl) (by kernel_rfl) (fun _ _ _ h => h) (Or.inl ⟨by rfl, ?_⟩) hHeld ?_
        rotate_left
        · intro w hSw; obtain ⟨s0, s1, s2⟩ := hSw; (try dsimp only at hSw); go_simp; (try with_reducible rfl)
        try simp only [Act.put, List.setIfInBounds_toArray, List.set_cons_zero, List.set_cons_succ]
        refine wpAnyH_take (i := 8) (oi := { dst := some 24, op := Op.binOp BinOp.add 3 (Operand.tmp 23) (Operand.const (Value.int IntKind.i64 1)) 3, type := 3, pos := "l15_either.go:34", after := #[{ on := 7, ground := Ground.data }], guard := none }) (v := ?_) rfl (by kernel_rfl) (by kernel_rfl) (by kernel_rfl) (fun _ _ _ h => h) (Or.inl ⟨by rfl, ?_⟩) hHeld ?_
        rotate_left
        · intro w hSw; obtain ⟨s0, s1, s2⟩ := hSw; (try dsimp only at hSw); go_simp; (try with_reducible rfl)
        try simp only [Act.put, List.setIfInBounds_toArray, List.set_cons_zero, List.set_cons_succ]
        refine wpAnyH_take (i := 9) (oi := { dst := some 25, op := Op.indexAddr 22 (Operand.tmp 21) (Operand.tmp 24), type := 0, pos := "l15_either.go:34", after := #[{ on := 5, ground := Ground.data }, { on := 8, ground := Ground.data }], guard := none }) (v := ?_) rfl (by kernel_rfl) (by kernel_rfl) (by kernel_rfl) (fun _ _ _ h => h) (Or.inl ⟨by rfl, ?_⟩) hHeld ?_
        rotate_left
        · intro w hSw; obtain ⟨s0, s1, s2⟩ := hSw; (try dsimp only at hSw); go_simp; (try with_reducible rfl)
        try simp only [Act.put, List.setIfInBounds_toArray, List.set_cons_zero, List.set_cons_succ]
        refine wpAnyH_take (i := 10) (oi := { dst := some 26, op := Op.load 3 (Operand.tmp 25), type := 3, pos := "l15_either.go:34", after := #[{ on := 9, ground := Ground.data }], guard := none }) (v := ?_) rfl (by kernel_rfl) (by kernel_rfl) (by kernel_rfl) (fun _ _ _ h => h) (Or.inl ⟨by rfl, ?_⟩) hHeld ?_
        rotate_left
        · intro w hSw; obtain ⟨s0, s1, s2⟩ := hSw; (try dsimp only at hSw); go_simp; (try with_reducible rfl)
        try simp only [Act.put, List.setIfInBounds_toArray, List.set_cons_zero, List.set_cons_succ]
        refine wpAnyH_take (i := 11) (oi := { dst := some 27, op := Op.build 64 #[(0, Operand.tmp 20), (1, Operand.tmp 26)], type := 64, pos := "l15_either.go:34", after := #[{ on := 4, ground := Ground.data }, { on := 10, ground := Ground.data }], guard := none }) (v := ?_) rfl (by kernel_rfl) (by kernel_rfl) (by kernel_rfl) (fun _ _ _ h => h) (Or.inl ⟨by rfl, ?_⟩) hHeld ?_
        rotate_left
        · intro w hSw; obtain ⟨s0, s1, s2⟩ := hSw; (try dsimp only at hSw); go_simp; (try with_reducible rfl)
        try simp only [Act.put, List.setIfInBounds_toArray, List.set_cons_zero, List.set_cons_succ]
        refine wpAnyH_ready (rs := [12]) (by kernel_rfl) (by simp) ?_
        refine AllReadyH.cons (o := { dst := some 6, op := Op.alloc 64, type := 0, pos := "l15_either.go:34", after := #[], guard := none }) rfl (fun K hK => ?_) ?_
        · go_simp
          obtain ⟨u1, hw1⟩ : ∃ W, Hid (u0.alloc (.cells #[.int .i64 0, .int .i64 0] 64) = W) := ⟨_, Lib.hid rfl⟩
          rw [hw1.out]
          have zs1 : u0.heap.size < u1.heap.size := by rw [← hw1.out, World.size_alloc]; omega
          have HBl1 : Hid (Below wr.heap.size wr u1) := Lib.hid (by rw [← hw1.out]; exact HBl0.out.alloc HBl0.out.size _)
          have HX_tp1 : Hid (Bx u1 Bt #[.slice (some b) nt ct] 22) := Lib.hid (by rw [← hw1.out]; exact HX_tp0.out.alloc _)
          have HX_an1 : Hid (Bx u1 u0.heap.size #[.int .i64 0, .int .i64 0] 64) := Lib.hid (by rw [← hw1.out]; exact Bx.new _ _ _)
          have hab1 : Below u0.heap.size u0 u1 := by rw [← hw1.out]; exact (Below.refl _ _).alloc (Nat.le_refl _) _
          clear hHeld hw1 hab1 HBl0 HX_tp0
          refine hK.out _ _ ⟨HX_tp1.out.cell 0, ((HBl1.out.cell (p := (b.add J2)) hbb1).trans HTA.out), ((HBl1.out.cell (p := ⟨b.block, b.off + (J2 + 1), none⟩) hbb2).trans HTB.out)⟩ (fun hHeld => ?_)
          clear hK K
          try simp only [Act.put, List.setIfInBounds_toArray, List.set_cons_zero, List.set_cons_succ]
          refine wpAnyH_ready (rs := [13]) (by kernel_rfl) (by simp) ?_
          refine AllReadyH.cons (o := { dst := none, op := Op.store 64 (Operand.tmp 6) (Operand.tmp 27), type := 0, pos := "l15_either.go:34", after := #[{ on := 12, ground := Ground.data }, { on := 11, ground := Ground.data }, { on := 0, ground := Ground.phase }, { on := 1, ground := Ground.phase }, { on := 2, ground := Ground.phase }, { on := 3, ground := Ground.phase }, { on := 4, ground := Ground.phase }, { on := 5, ground := Ground.phase }, { on := 6, ground := Ground.phase }, { on := 7, ground := Ground.phase }, { on := 8, ground := Ground.phase }, { on := 9, ground := Ground.phase }, { on := 10, ground := Ground.phase }, { on := 11, ground := Ground.phase }, { on := 12, ground := Ground.phase }], guard := none }) rfl (fun K hK => ?_) ?_
          · have xc0 : u1.cell? ⟨u0.heap.size, 0, none⟩ = some (.int .i64 0) := HX_an1.out.cell 0
            have xf0 : u1.frozen? ⟨u0.heap.size, 0, none⟩ = false := HX_an1.out.free 0
            have xc1 : u1.cell? ⟨u0.heap.size, 1, none⟩ = some (.int .i64 0) := HX_an1.out.cell 1
            have xf1 : u1.frozen? ⟨u0.heap.size, 1, none⟩ = false := HX_an1.out.free 1
            go_simp
            obtain ⟨u2, hw2⟩ : ∃ W, Hid (((u1.setCell ⟨u0.heap.size, 0, none⟩ (.int .i64 t0)).setCell ⟨u0.heap.size, 1, none⟩ (.int .i64 t1)) = W) := ⟨_, Lib.hid rfl⟩
            rw [hw2.out]
            have hk2 : Kept (u0.heap.size) (u0.heap.size + 1) u1 u2 := by rw [← hw2.out]; exact ((Kept.refl _ _ _).setCell (p := ⟨u0.heap.size, 0, none⟩) (Nat.le_refl _) (Nat.lt_succ_self _) _).setCell (p := ⟨u0.heap.size, 1, none⟩) (Nat.le_refl _) (Nat.lt_succ_self _) _
            have zs2 : u1.heap.size ≤ u2.heap.size := hk2.size
            have hlo2 := HBl1.out.size
            have HBl2 : Hid (Below wr.heap.size wr u2) := Lib.hid (HBl1.out.trans ((hk2.to_below (by have := HX_an1.out.lt; omega)).mono (by omega)))
            have HX_an2 : Hid (Bx u2 u0.heap.size #[.int .i64 t0, .int .i64 t1] 64) := Lib.hid (by have := ((HX_an1.out).set 0 (.int .i64 t0)).set 1 (.int .i64 t1); rw [hw2.out] at this; exact this)
            have HX_tp2 : Hid (Bx u2 Bt #[.slice (some b) nt ct] 22) := Lib.hid (HX_tp1.out.kept hk2 (by have := HX_tp1.out.lt; have := HX_an1.out.lt; omega))
            clear hHeld hw2 hk2 hlo2 xc0 xf0 xc1 xf1 HBl1 HX_tp1 HX_an1
            refine hK.out _ _ ⟨HX_tp2.out.cell 0, ((HBl2.out.cell (p := (b.add J2)) hbb1).trans HTA.out), ((HBl2.out.cell (p := ⟨b.block, b.off + (J2 + 1), none⟩) hbb2).trans HTB.out)⟩ (fun hHeld => ?_)
            clear hK K
            try simp only [Act.put]
            refine wpAnyH_done (by kernel_rfl) ?_ _
            have x0 : u2.cell? ⟨u0.heap.size, 0, none⟩ = some (.int .i64 t0) := HX_an2.out.cell 0
            have x1 : u2.cell? ⟨u0.heap.size, 1, none⟩ = some (.int .i64 t1) := HX_an2.out.cell 1
            have hJu := hJ _ _ _ none hJs (grown_of_below15 HBl2.out) (fun r e => by cases e)
            have HBSu := Lib.hid (HBS.out.grown HBl2.out)
            have xf : u2.cell? ⟨Bf, 0, none⟩ = some _ := HBSu.out.2.2.cell 0
            have HBLu : Hid (Below n₀ w0 u2) := Lib.hid (HBL.out.trans (HBl2.out.mono HZ.out))
            have HZu : Hid (n₀ ≤ u2.heap.size) := Lib.hid (Nat.le_trans HZ.out HBl2.out.size)
            clear HBl2 HX_an2 HX_tp2 HBS HBL HZ hJs HTA HTB
            gi_wp2_with (refine ⟨trivial, ?_⟩
                         gi_at_call 60
                         refine (callsIn_wide.2 (HF4.out _ HBLu.out)).mono ?_
                         rintro e W1 ⟨rfl, hb1⟩
                         have hJ1 := hJ _ _ _ none hJu (grown_of_below15 hb1) (fun r e => by cases e)
                         have HBS1 := Lib.hid (HBSu.out.grown hb1)
                         have HBL1 : Hid (Below n₀ w0 W1) := Lib.hid (HBLu.out.trans (hb1.mono HZu.out))
                         have HZ1 : Hid (n₀ ≤ W1.heap.size) := Lib.hid (Nat.le_trans HZu.out hb1.size)
                         obtain ⟨fn, tmps, assign, body, hy, hR⟩ := HYY.out _ ⟨k, hlt⟩ W1 hJ1 (Nat.lt_of_le_of_lt (othF_len n q k) hlt)
                         simp only [encOT, HOP.out] at hy
                         clear hb1 HBLu HZu HBSu hJu x0 x1 xf)
            refine hR.mono ?_
            rintro e W3 (⟨rfl, hJ3, hk3⟩ | ⟨rfl, hJx3⟩)
            · have HK3 := Lib.hid hk3
              clear hk3
              gi_wp2
              go_roundw
              case rel => exact ⟨k + 1, by omega, by go_num, by rw [HS.out]; exact hJ3, Lib.hid (HBL1.out.trans HK3.out.1), Lib.hid (Nat.le_trans HZ1.out HK3.out.1.size), Lib.hid (HK3.out.2 HBS1.out)⟩
              case measure => simp [intOf] <;> omega
            · gi_wp2
              refine bodyPost_ret (results_none rfl _ _ _) rfl ?_
              exact ⟨⟨_, rfl⟩, .inr ⟨_, trivial, hJx3⟩⟩
          exact AllReadyH.nil
        exact AllReadyH.nil
    · obtain rfl : k = n := by omega
      gi_wp2
      go_end0
      exact ⟨⟨_, rfl⟩, .inl ⟨_, rfl, hJs⟩⟩
end Go.Proofs.Ytdhakbpimbadgaa
