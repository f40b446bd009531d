/- Chapter 17: the honest prover; CubeProve of the program. Made by tools/gen17/e.py. -/
import Derived.Test.YtaiilopfdjbceaaWalk17c
import Derived.Test.YtaiilopfdjbceaaWalk17d
import Derived.Test.YtaiilopfdjbceaaWalk17f
import Derived.Deep.Cut
import Derived.Deep.RegionWith
namespace Go.Proofs.Ytaiilopfdjbceaa
open Go.RowKit Go.Shelf
set_option maxRecDepth 100000

theorem nums_take {zs : List Int} (h : Nums zs) (k : Nat) : Nums (zs.take k) := by
  intro j
  by_cases hj : j < k
  · rw [show (zs.take k).getD j 0 = zs.getD j 0 by simp [hj]]; exact h j
  · rw [getD_out _ _ (by rw [List.length_take]; omega)]; omega
theorem i_honest (v : Value) (w : World) (A : Option Addr) (n c : Nat) (hv : v = .slice A n c) :
    Calls Try.prog 56 #[v] w fun e w' => e = .returned (.func (.func 91) #[] #[.pointer (some ⟨w.heap.size, 0, none⟩)]) ∧ w' = w.alloc (.cells #[.slice A n c] 60) := by
  subst hv
  go_enter Try.func56, Try.ntmps56
  go_wp2
  go_ret
  exact ⟨rfl, rfl⟩
set_option maxHeartbeats 2000000 in
theorem i_honest1 (B : Nat) (A : Option Addr) (n c b : Nat) (zs : List Int) (A' : Option Addr) (n' c' : Nat) (xs : List Int) (w : World) (hx : Bx w B #[.slice A n c] 60) (h : Rd w w.heap.size 1 A n (cI zs)) (h' : Rd w w.heap.size 1 A' n' (cI xs)) (hz : zs.length = 2 ^ b) (hb : n' < b) (hb3 : b ≤ 3) (hN : Nums zs) (hX : Nums xs) :
    Calls Try.prog 91 #[.slice A' n' c', .pointer (some ⟨B, 0, none⟩)] w fun e w' => e = .returned (.agg #[.int .i64 (endsP (foldsL zs xs)).1, .int .i64 (endsP (foldsL zs xs)).2]) ∧ Below w.heap.size w w' := by
  have HLX := Lib.hid (foldsL_length zs xs b hz (by rw [h'.len]; omega))
  have hxl := h'.len
  obtain ⟨W0, hW0⟩ : ∃ W, Hid (w.alloc (.cells #[.int .i64 0, .int .i64 0] 44) = W) := ⟨_, Lib.hid rfl⟩
  have HB : Hid (Below w.heap.size w W0) := Lib.hid (by rw [← hW0.out]; exact (Below.refl _ _).alloc (Nat.le_refl _) _)
  have HX_R : Hid (Bx W0 w.heap.size #[.int .i64 0, .int .i64 0] 44) := Lib.hid (by rw [← hW0.out]; exact Bx.new _ _ _)
  have HX_B : Hid (Bx W0 B #[.slice A n c] 60) := Lib.hid (hx.below HB.out hx.lt)
  have hlt := HX_R.out.lt
  have HR := Lib.hid (i_replaced A n c b zs A' n' c' xs W0 ((h.below HB.out).more HB.out.size) ((h'.below HB.out).more HB.out.size) hz (by omega) hb3 hN hX)
  have HN := Lib.hid (foldsL_nums hN xs)
  have h3 : (foldsL zs xs).length ≤ 8 := by rw [HLX.out]; have : 2 ^ (b - xs.length) ≤ 2 ^ 3 := Nat.pow_le_pow_right (by omega) (by omega); omega
  have HEV : Hid ((foldsL zs xs).length = 2 * ((foldsL zs xs).length / 2)) := Lib.hid (by rw [HLX.out]; obtain ⟨q, hq⟩ : ∃ q, b - xs.length = q + 1 := ⟨b - xs.length - 1, by omega⟩; rw [hq, Nat.pow_succ]; omega)
  obtain ⟨l, hl⟩ : ∃ l, Hid (foldsL zs xs = l) := ⟨_, Lib.hid rfl⟩
  rw [hl.out] at HR HN h3 HEV ⊢
  obtain ⟨p0, hp0⟩ : ∃ p, Hid (evK l (l.length / 2) = p) := ⟨_, Lib.hid rfl⟩
  obtain ⟨p1, hp1⟩ : ∃ p, Hid (odK l (l.length / 2) = p) := ⟨_, Lib.hid rfl⟩
  have HF : Hid (endsP l = (p0, p1)) := Lib.hid (by unfold endsP; rw [hp0.out, hp1.out])
  rw [HF.out]
  have cB : (w.alloc (.cells #[.int .i64 0, .int .i64 0] 44)).cell? ⟨B, 0, none⟩ = some (.slice A n c) := (hx.alloc _).cell 0
  clear hx h h' hz hb hb3 hN hX HLX hl hxl
  go_enter Try.func91, Try.ntmps91
  go_wp2_with fail
  rw [hW0.out]
  clear hW0
  refine HR.out.mono ?_
  rintro e w2 ⟨A2, q2, c2, rfl, hr, hb2⟩
  have hq2 := hr.len
  have HE := Lib.hid (i_ends A2 q2 c2 (l.length / 2) l w2 hr (by rw [← hq2]; exact HEV.out) HN.out (by omega))
  have HB2 : Hid (Below w.heap.size w w2) := Lib.hid (HB.out.trans (hb2.mono HB.out.size))
  have HX2 := Lib.hid (HX_R.out.below hb2 hlt)
  rw [hp0.out, hp1.out] at HE
  have hlt2 := HX2.out.lt
  clear hr hb2 HR HB HX_R HX_B hp0 hp1 hq2 cB
  go_wp2_with fail
  refine HE.out.mono ?_
  rintro e w3 ⟨rfl, hb3⟩
  have HB3 : Hid (Below w.heap.size w w3) := Lib.hid (HB2.out.trans (hb3.mono HB2.out.size))
  have HX3 := Lib.hid (HX2.out.below hb3 hlt2)
  have hf0 := HX3.out.free 0
  have hf1 := HX3.out.free 1
  have hc0 : w3.cell? ⟨w.heap.size, 0, none⟩ = some (.int .i64 0) := HX3.out.cell 0
  have hc1 : w3.cell? ⟨w.heap.size, 1, none⟩ = some (.int .i64 0) := HX3.out.cell 1
  clear hb3 HB2 HX2 HE
  go_wp2
  exact bodyPost_ret (v := .agg #[.int .i64 p0, .int .i64 p1]) (resPt1 rfl rfl ((HX3.out.set 0 _).set 1 _)) rfl ⟨rfl, (HB3.out.setCell (p := ⟨w.heap.size, 0, none⟩) (Nat.le_refl _) _).setCell (p := ⟨w.heap.size, 1, none⟩) (Nat.le_refl _) _⟩
set_option maxHeartbeats 4000000 in
theorem i_prov1 (b1 b2 B : Nat) (A : Option Addr) (n c b : Nat) (zs : List Int) (A' : Option Addr) (n' c' k : Nat) (xs : List Int) (w : World) (hx1 : Bx w b1 #[.func (.func 91) #[] #[.pointer (some ⟨B, 0, none⟩)]] 68) (hx2 : Bx w b2 #[.slice A' n' c'] 22) (hx : Bx w B #[.slice A n c] 60)
    (h : Rd w w.heap.size 1 A n (cI zs)) (h' : Rd w w.heap.size 1 A' n' (cI xs)) (hz : zs.length = 2 ^ b) (hk : k < n') (hcc : n' ≤ c') (hn' : n' = b) (hb3 : b ≤ 3) (hN : Nums zs) (hX : Nums xs) :
    Calls Try.prog 58 #[.int .i64 k, .pointer (some ⟨b1, 0, none⟩), .pointer (some ⟨b2, 0, none⟩)] w fun e w' => e = .returned (.agg #[.int .i64 (provF zs xs k).1, .int .i64 (provF zs xs k).2]) ∧ Below w.heap.size w w' := by
  have hl1 := hx1.lt
  have hl2 := hx2.lt
  obtain ⟨a', rfl, hab', _⟩ := h'.2 (by omega)
  have HCT := Lib.hid (h'.cut (k := k) (by omega))
  have HNX : Hid (Nums (xs.take k)) := Lib.hid (nums_take hX k)
  have HON := fun (W : World) (hb : Below w.heap.size w W) => Lib.hid (i_honest1 B A n c b zs (some a') k c' (xs.take k) W (hx.below hb hx.lt) ((h.below hb).more hb.size) ((HCT.out.below hb).more hb.size) hz (by omega) hb3 hN HNX.out)
  obtain ⟨p0, hp0⟩ : ∃ p, Hid ((endsP (foldsL zs (xs.take k))).1 = p) := ⟨_, Lib.hid rfl⟩
  obtain ⟨p1, hp1⟩ : ∃ p, Hid ((endsP (foldsL zs (xs.take k))).2 = p) := ⟨_, Lib.hid rfl⟩
  have HF : Hid (provF zs xs k = (p0, p1)) := Lib.hid (by unfold provF; rw [← hp0.out, ← hp1.out])
  rw [HF.out]
  rw [hp0.out, hp1.out] at HON
  obtain ⟨W0, hW0⟩ : ∃ W, Hid (w.alloc (.cells #[.int .i64 0, .int .i64 0] 44) = W) := ⟨_, Lib.hid rfl⟩
  have HB : Hid (Below w.heap.size w W0) := Lib.hid (by rw [← hW0.out]; exact (Below.refl _ _).alloc (Nat.le_refl _) _)
  have HX_re : Hid (Bx W0 w.heap.size #[.int .i64 0, .int .i64 0] 44) := Lib.hid (by rw [← hW0.out]; exact Bx.new _ _ _)
  have HX_tl : Hid (Bx W0 b1 #[.func (.func 91) #[] #[.pointer (some ⟨B, 0, none⟩)]] 68) := Lib.hid (hx1.below HB.out hl1)
  have HX_ch : Hid (Bx W0 b2 #[.slice (some a') n' c'] 22) := Lib.hid (hx2.below HB.out hl2)
  have i0 : (0 : Int) ≤ (k : Int) := by omega
  have i1 : (k : Int) ≤ (c' : Int) := by omega
  clear hx1 hx2 hx h h' hz hN hX hp0 hp1 HNX HF
  go_enter Try.func58, Try.ntmps58
  go_upto_region 1 with (fail)
  rw [hW0.out]
  clear hW0
  refine wp_region_held_drew (S := fun w' => w'.cell? ⟨b1, 0, none⟩ = some (.func (.func 91) #[] #[.pointer (some ⟨B, 0, none⟩)]) ∧ w'.cell? ⟨b2, 0, none⟩ = some ((.slice (some a') n' c'))) (by kernel_rfl) ⟨HX_tl.out.cell 0, HX_ch.out.cell 0⟩ (fun hHeld => ?_)
  obtain ⟨u0, hu0⟩ : ∃ u0, Hid (W0.drew = u0) := ⟨_, Lib.hid rfl⟩
  rw [hu0.out] at hHeld ⊢
  have zs0 : W0.heap.size = u0.heap.size := by rw [← hu0.out]; rfl
  replace zs0 := Nat.le_of_eq zs0
  have HBl0 : Hid (Below w.heap.size w u0) := Lib.hid (by rw [← hu0.out]; exact HB.out.drew)
  have HX_tl0 : Hid (Bx u0 b1 #[.func (.func 91) #[] #[.pointer (some ⟨B, 0, none⟩)]] 68) := Lib.hid (by rw [← hu0.out]; exact HX_tl.out)
  have HX_ch0 : Hid (Bx u0 b2 #[(.slice (some a') n' c')] 22) := Lib.hid (by rw [← hu0.out]; exact HX_ch.out)
  have HX_re0 : Hid (Bx u0 w.heap.size #[.int .i64 0, .int .i64 0] 44) := Lib.hid (by rw [← hu0.out]; exact HX_re.out)
  clear hu0
  refine wpAnyH_take (i := 0) (oi := { dst := some 5, op := Op.load 68 (Operand.tmp 1), type := 68, pos := "l17_sums.go:149", after := #[], guard := none }) (v := ?_) rfl (by kernel_rfl) (by kernel_rfl) (by kernel_rfl) (fun _ _ _ h => h) (Or.inl ⟨by rfl, ?_⟩) hHeld ?_
  rotate_left
  · intro w hSw; obtain ⟨s0, s1⟩ := hSw; (try dsimp only at hSw); go_simp; (try with_reducible rfl)
  try simp only [Act.put, List.setIfInBounds_toArray, List.set_cons_zero, List.set_cons_succ]
  refine wpAnyH_take (i := 1) (oi := { dst := some 6, op := Op.load 22 (Operand.tmp 2), type := 22, pos := "l17_sums.go:149", after := #[], guard := none }) (v := ?_) rfl (by kernel_rfl) (by kernel_rfl) (by kernel_rfl) (fun _ _ _ h => h) (Or.inl ⟨by rfl, ?_⟩) hHeld ?_
  rotate_left
  · intro w hSw; obtain ⟨s0, s1⟩ := hSw; (try dsimp only at hSw); go_simp; (try with_reducible rfl)
  try simp only [Act.put, List.setIfInBounds_toArray, List.set_cons_zero, List.set_cons_succ]
  refine wpAnyH_take (i := 2) (oi := { dst := some 7, op := Op.move (Operand.tmp 0), type := 3, pos := "l17_sums.go:149", after := #[], guard := none }) (v := ?_) rfl (by kernel_rfl) (by kernel_rfl) (by kernel_rfl) (fun _ _ _ h => h) (Or.inl ⟨by rfl, ?_⟩) hHeld ?_
  rotate_left
  · intro w hSw; obtain ⟨s0, s1⟩ := hSw; (try dsimp only at hSw); go_simp; (try with_reducible rfl)
  try simp only [Act.put, List.setIfInBounds_toArray, List.set_cons_zero, List.set_cons_succ]
  refine wpAnyH_take (i := 3) (oi := { dst := some 8, op := Op.slice 22 (Operand.tmp 6) none (some (Operand.tmp 7)) none, type := 22, pos := "l17_sums.go:149", after := #[{ on := 1, ground := Ground.data }, { on := 2, ground := Ground.data }], guard := none }) (v := ?_) rfl (by kernel_rfl) (by kernel_rfl) (by kernel_rfl) (fun _ _ _ h => h) (Or.inl ⟨by rfl, ?_⟩) hHeld ?_
  rotate_left
  · intro w hSw; obtain ⟨s0, s1⟩ := hSw; (try dsimp only at hSw); go_simp; (try with_reducible rfl)
  try simp only [Act.put, List.setIfInBounds_toArray, List.set_cons_zero, List.set_cons_succ]
  refine wpAnyH_ready (rs := [4]) (by kernel_rfl) (by simp) ?_
  refine AllReadyH.cons (o := { dst := some 9, op := Op.call { callee := Callee.value (Operand.tmp 5), args := #[Operand.tmp 8], argTypes := #[22] }, type := 44, pos := "l17_sums.go:149", after := #[{ on := 0, ground := Ground.data }, { on := 3, ground := Ground.data }], guard := none }) rfl (fun K hK => ?_) ?_
  · go_simp
    refine ((HON u0 HBl0.out).out).mono ?_
    rintro e u1 ⟨rfl, hb_⟩
    have zs1 : u0.heap.size ≤ u1.heap.size := hb_.size
    have HBl1 : Hid (Below w.heap.size w u1) := Lib.hid (HBl0.out.trans (hb_.mono HBl0.out.size))
    have HX_tl1 : Hid (Bx u1 b1 #[.func (.func 91) #[] #[.pointer (some ⟨B, 0, none⟩)]] 68) := Lib.hid (HX_tl0.out.below hb_ HX_tl0.out.lt)
    have HX_ch1 : Hid (Bx u1 b2 #[(.slice (some a') n' c')] 22) := Lib.hid (HX_ch0.out.below hb_ HX_ch0.out.lt)
    have HX_re1 : Hid (Bx u1 w.heap.size #[.int .i64 0, .int .i64 0] 44) := Lib.hid (HX_re0.out.below hb_ HX_re0.out.lt)
    clear hHeld hb_ HBl0 HX_tl0 HX_ch0 HX_re0
    (try dsimp only)
    (try go_wp2_with fail)
    refine hK.out _ _ ⟨HX_tl1.out.cell 0, HX_ch1.out.cell 0⟩ (fun hHeld => ?_)
    clear hK K
    try simp only [Act.put, List.setIfInBounds_toArray, List.set_cons_zero, List.set_cons_succ]
    refine wpAnyH_ready (rs := [5]) (by kernel_rfl) (by simp) ?_
    refine AllReadyH.cons (o := { dst := none, op := Op.store 44 (Operand.tmp 4) (Operand.tmp 9), type := 0, pos := "l17_sums.go:149", after := #[{ on := 4, ground := Ground.data }, { on := 4, ground := Ground.chain }, { on := 0, ground := Ground.phase }, { on := 1, ground := Ground.phase }, { on := 2, ground := Ground.phase }, { on := 3, ground := Ground.phase }, { on := 4, ground := Ground.phase }], guard := none }) rfl (fun K hK => ?_) ?_
    · have xc0 : u1.cell? ⟨w.heap.size, 0, none⟩ = some (.int .i64 0) := HX_re1.out.cell 0
      have xf0 : u1.frozen? ⟨w.heap.size, 0, none⟩ = false := HX_re1.out.free 0
      have xc1 : u1.cell? ⟨w.heap.size, 1, none⟩ = some (.int .i64 0) := HX_re1.out.cell 1
      have xf1 : u1.frozen? ⟨w.heap.size, 1, none⟩ = false := HX_re1.out.free 1
      go_simp
      obtain ⟨u2, hw2⟩ : ∃ W, Hid (((u1.setCell ⟨w.heap.size, 0, none⟩ (.int .i64 p0)).setCell ⟨w.heap.size, 1, none⟩ (.int .i64 p1)) = W) := ⟨_, Lib.hid rfl⟩
      rw [hw2.out]
      have hk2 : Kept (w.heap.size) (w.heap.size + 1) u1 u2 := by rw [← hw2.out]; exact ((Kept.refl _ _ _).setCell (p := ⟨w.heap.size, 0, none⟩) (Nat.le_refl _) (Nat.lt_succ_self _) _).setCell (p := ⟨w.heap.size, 1, none⟩) (Nat.le_refl _) (Nat.lt_succ_self _) _
      have zs2 : u1.heap.size ≤ u2.heap.size := hk2.size
      have hlo2 := HBl1.out.size
      have HBl2 : Hid (Below w.heap.size w u2) := Lib.hid (HBl1.out.trans ((hk2.to_below (by have := HX_re1.out.lt; omega)).mono (by omega)))
      have HX_re2 : Hid (Bx u2 w.heap.size #[.int .i64 p0, .int .i64 p1] 44) := Lib.hid (by have := ((HX_re1.out).set 0 (.int .i64 p0)).set 1 (.int .i64 p1); rw [hw2.out] at this; exact this)
      have HX_tl2 : Hid (Bx u2 b1 #[.func (.func 91) #[] #[.pointer (some ⟨B, 0, none⟩)]] 68) := Lib.hid (HX_tl1.out.kept hk2 (by have := HX_tl1.out.lt; have := HX_ch1.out.lt; have := HX_re1.out.lt; omega))
      have HX_ch2 : Hid (Bx u2 b2 #[(.slice (some a') n' c')] 22) := Lib.hid (HX_ch1.out.kept hk2 (by have := HX_tl1.out.lt; have := HX_ch1.out.lt; have := HX_re1.out.lt; omega))
      clear hHeld hw2 hk2 hlo2 xc0 xf0 xc1 xf1 HBl1 HX_tl1 HX_ch1 HX_re1
      refine hK.out _ _ ⟨HX_tl2.out.cell 0, HX_ch2.out.cell 0⟩ (fun hHeld => ?_)
      clear hK K
      try simp only [Act.put]
      refine wpAnyH_done (by kernel_rfl) ?_ _
      go_wp2
      exact bodyPost_ret (v := .agg #[.int .i64 p0, .int .i64 p1]) (resPt1 rfl rfl HX_re2.out) rfl ⟨rfl, HBl2.out⟩
    exact AllReadyH.nil
  exact AllReadyH.nil

set_option maxHeartbeats 4000000 in
theorem X_i_CubeProve (v v' : Value) (d x : List Int) (w : World) (lo hi : Nat) (h : OwIntS w lo hi v d) (hh : hi ≤ w.heap.size) (lo' hi' : Nat) (h' : OwIntS w lo' hi' v' x) (hh' : hi' ≤ w.heap.size) (hs : szIntS d ≤ 1048576) (hs' : szIntS x ≤ 1048576) :
    Calls Try.prog 22 #[v, v'] w fun e w' => ∃ g, e = .returned (.tuple #[g, .bool (R_CubeProve_1 d x)]) ∧ OwPointS w' w.heap.size w'.heap.size g (R_CubeProve_0 d x) ∧ Below w.heap.size w w' := by
  obtain ⟨_, A, n, c, rfl, ro⟩ := h
  obtain ⟨_, A', n', c', rfl, ro'⟩ := h'
  have hn : n ≤ 1048576 := by have := ro.len; unfold szIntS at hs; omega
  have hn' : n' ≤ 1048576 := by have := ro'.len; unfold szIntS at hs'; omega
  have hcc : n' ≤ c' := ro'.2.1
  have hl := Lib.hid ro.len
  have hl' := Lib.hid ro'.len
  obtain ⟨W0, hW0⟩ : ∃ W, Hid (w.alloc (.cells #[.slice A' n' c'] 22) = W) := ⟨_, Lib.hid rfl⟩
  have HB0 : Hid (Below w.heap.size w W0) := Lib.hid (by rw [← hW0.out]; exact (Below.refl _ _).alloc (Nat.le_refl _) _)
  have HX0 : Hid (Bx W0 w.heap.size #[.slice A' n' c'] 22) := Lib.hid (by rw [← hW0.out]; exact Bx.new _ _ _)
  have H : Hid (Rd W0 W0.heap.size 1 A n (cI d)) := Lib.hid (((ro.rd.more hh).below HB0.out).more HB0.out.size)
  have H' : Hid (Rd W0 W0.heap.size 1 A' n' (cI x)) := Lib.hid (((ro'.rd.more hh').below HB0.out).more HB0.out.size)
  have hlt0 := HX0.out.lt
  have cC : (w.alloc (.cells #[.slice A' n' c'] 22)).cell? ⟨w.heap.size, 0, none⟩ = some (.slice A' n' c') := (Bx.new _ _ _).cell 0
  clear ro ro' hs hs' hh hh'
  cases hf : fitB d x
  · have HF := cubeProve_no hf
    go_enter Try.func22, Try.ntmps22
    go_wp2_with fail
    rw [hW0.out]
    refine (i_fit _ _ _ _ _ _ _ _ _ H.out H'.out hn hn').mono ?_
    rintro e w' ⟨rfl, rfl⟩
    rw [hf]
    go_wp2
    go_ret2
    refine ⟨_, ret_vb HF.out.1.symm, ?_, HB0.out⟩
    rw [HF.out.2]; exact OwPointS.nil_ _ _ _
  · obtain ⟨hc, hx, hxn⟩ := fitB_iff.1 hf
    obtain ⟨c1, c2, c3⟩ := cube_bits hc
    have HF : Hid (R_CubeProve_1 d x = true ∧ R_CubeProve_0 d x = uptoF (provF d x) n') := Lib.hid ⟨hf, by unfold R_CubeProve_0; rw [if_pos hf, hl'.out]⟩
    have HFACT : Hid (d.length = 2 ^ n' ∧ n' ≤ 3 ∧ Nums d ∧ Nums x) := Lib.hid ⟨by rw [← hl'.out, hx]; exact c1, by rw [← hl'.out, hx]; exact c3, cubeB_nums hc, nums_of_B hxn⟩
    clear hc hx hxn c1 c2 c3
    go_enter Try.func22, Try.ntmps22
    go_wp2_with fail
    rw [hW0.out]
    clear hW0 cC
    refine (i_fit _ _ _ _ _ _ _ _ _ H.out H'.out hn hn').mono ?_
    rintro e w' ⟨rfl, rfl⟩
    rw [hf]
    go_wp2_with fail
    refine (i_honest _ _ A n c rfl).mono ?_
    rintro e w1 ⟨rfl, hw1⟩
    have HXc : Hid (Bx w1 W0.heap.size #[.slice A n c] 60) := Lib.hid (by rw [hw1]; exact Bx.new _ _ _)
    have HB01 : Hid (Below W0.heap.size W0 w1) := Lib.hid (by rw [hw1]; exact (Below.refl _ _).alloc (Nat.le_refl _) _)
    obtain ⟨w2, hw2⟩ : ∃ W, Hid (w1.alloc (.cells #[.func (.func 91) #[] #[.pointer (some ⟨W0.heap.size, 0, none⟩)]] 68) = W) := ⟨_, Lib.hid rfl⟩
    have HB12 : Hid (Below w1.heap.size w1 w2) := Lib.hid (by rw [← hw2.out]; exact (Below.refl _ _).alloc (Nat.le_refl _) _)
    have HXt : Hid (Bx w2 w1.heap.size #[.func (.func 91) #[] #[.pointer (some ⟨W0.heap.size, 0, none⟩)]] 68) := Lib.hid (by rw [← hw2.out]; exact Bx.new _ _ _)
    have hz1 := HB01.out.size
    have hz2 := HB12.out.size
    have HXc2 := Lib.hid (HXc.out.below HB12.out HXc.out.lt)
    have HX2 := Lib.hid ((HX0.out.below HB01.out hlt0).below HB12.out (by omega))
    have H2 : Hid (Rd w2 w2.heap.size 1 A n (cI d)) := Lib.hid ((((H.out.below HB01.out).more hz1).below HB12.out).more hz2)
    have H2' : Hid (Rd w2 w2.heap.size 1 A' n' (cI x)) := Lib.hid ((((H'.out.below HB01.out).more hz1).below HB12.out).more hz2)
    have HB2 : Hid (Below w.heap.size w w2) := Lib.hid ((HB0.out.trans (HB01.out.mono (by omega))).trans (HB12.out.mono (by omega)))
    have HLI := Lib.hid (i_listed_prov w1.heap.size w.heap.size n' hn' (provF d x) w2 (fun W k hW hk => by
      exact i_prov1 w1.heap.size w.heap.size W0.heap.size A n c n' d A' n' c' k x W (HXt.out.below hW HXt.out.lt) (HX2.out.below hW HX2.out.lt) (HXc2.out.below hW HXc2.out.lt) ((H2.out.below hW).more hW.size) ((H2'.out.below hW).more hW.size) HFACT.out.1 hk hcc rfl HFACT.out.2.1 HFACT.out.2.2.1 HFACT.out.2.2.2))
    have cC : (w1.alloc (.cells #[.func (.func 91) #[] #[.pointer (some ⟨W0.heap.size, 0, none⟩)]] 68)).cell? ⟨w.heap.size, 0, none⟩ = some (.slice A' n' c') := by rw [hw2.out]; exact HX2.out.cell 0
    clear hw1 HXc HX0 H H' HB01 HB12
    go_wp2_with fail
    rw [hw2.out]
    refine HLI.out.mono ?_
    rintro e w3 ⟨g, rfl, ho, hb3⟩
    have HO := Lib.hid (ho.widen (show w.heap.size ≤ _ by have := HB2.out.size; omega) (Nat.le_refl _))
    have HB3 := Lib.hid (HB2.out.trans (hb3.mono HB2.out.size))
    clear ho hb3 HLI
    go_wp2
    go_ret2
    exact ⟨_, ret_vb HF.out.1.symm, by rw [HF.out.2]; exact HO.out, HB3.out⟩
end Go.Proofs.Ytaiilopfdjbceaa
