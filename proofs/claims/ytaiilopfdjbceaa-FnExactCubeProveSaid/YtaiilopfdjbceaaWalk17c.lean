/- Chapter 17: lines; the program's extension. Made by tools/gen17/c.py. -/
import Derived.Test.YtaiilopfdjbceaaWalk17b
import Derived.Laws.EntriesVeiled
namespace Go.Proofs.Ytaiilopfdjbceaa
open Go.RowKit
set_option maxRecDepth 100000

/-- a line's two variables, in the blocks behind b -/
def Ln (w : World) (hi b : Nat) (x r : Int) : Prop := Bx w (b + 1) #[.int .i64 x] 62 ∧ Bx w (b + 2) #[.int .i64 r] 62 ∧ b + 3 ≤ hi
theorem Ln.below {w w' : World} {hi b B : Nat} {x r : Int} (h : Ln w hi b x r) (hb : Below B w w') (hl : hi ≤ B) : Ln w' hi b x r :=
  ⟨h.1.below hb (by have := h.2.2; omega), h.2.1.below hb (by have := h.2.2; omega), h.2.2⟩
set_option maxHeartbeats 1000000 in
theorem i_lineOf (x y : Int) (w : World) (x0 : 0 ≤ x) (x1 : x ≤ 112) (y0 : 0 ≤ y) (y1 : y ≤ 112) :
    Calls Try.prog 95 #[.agg #[.int .i64 x, .int .i64 y]] w fun e w' => e = .returned (.func (.func 110) #[] #[.pointer (some ⟨w.heap.size + 1, 0, none⟩), .pointer (some ⟨w.heap.size + 2, 0, none⟩)]) ∧ Ln w' w'.heap.size w.heap.size x ((y - x) % 113) ∧ Below w.heap.size w w' := by
  obtain ⟨W3, hW3⟩ : ∃ W, Hid (((w.alloc (.cells #[.int .i64 x, .int .i64 y] 44)).alloc (.cells #[.int .i64 x] 62)).alloc (.cells #[.int .i64 ((y - x) % 113)] 62) = W) := ⟨_, Lib.hid rfl⟩
  have HB : Hid (Below w.heap.size w W3) := Lib.hid (by rw [← hW3.out]; exact (((Below.refl _ _).alloc (Nat.le_refl _) _).alloc (by simp only [World.size_alloc]; omega) _).alloc (by simp only [World.size_alloc]; omega) _)
  have HL : Hid (Ln W3 W3.heap.size w.heap.size x ((y - x) % 113)) := Lib.hid (by
    rw [← hW3.out]
    refine ⟨?_, ?_, by simp only [World.size_alloc]; omega⟩
    · have := Bx.new (w.alloc (.cells #[.int .i64 x, .int .i64 y] 44)) #[.int .i64 x] 62
      simp only [World.size_alloc] at this; exact this.alloc _
    · have := Bx.new ((w.alloc (.cells #[.int .i64 x, .int .i64 y] 44)).alloc (.cells #[.int .i64 x] 62)) #[.int .i64 ((y - x) % 113)] 62
      simp only [World.size_alloc] at this; exact this)
  go_enter Try.func95, Try.ntmps95
  go_wp2_with fail
  refine (i_minus y x _ y0 y1 x0 x1).mono ?_
  rintro e w' ⟨rfl, rfl⟩
  go_wp2
  rw [hW3.out]
  go_ret
  exact ⟨rfl, HL.out, HB.out⟩

set_option maxHeartbeats 1000000 in
theorem i_line1 (b hi : Nat) (x r a : Int) (w : World) (h : Ln w hi b x r) (x0 : 0 ≤ x) (x1 : x ≤ 112) (r0 : 0 ≤ r) (r1 : r ≤ 112) (a0 : 0 ≤ a) (a1 : a ≤ 112) :
    Calls Try.prog 110 #[.int .i64 a, .pointer (some ⟨b + 1, 0, none⟩), .pointer (some ⟨b + 2, 0, none⟩)] w fun e w' => e = .returned (.int .i64 ((x + r * a % 113) % 113)) ∧ Below w.heap.size w w' := by
  have hx : w.cell? ⟨b + 1, 0, none⟩ = some (.int .i64 x) := h.1.cell 0
  have hr : w.cell? ⟨b + 2, 0, none⟩ = some (.int .i64 r) := h.2.1.cell 0
  clear h
  have p0 : 0 ≤ r * a % 113 := by omega
  have p1 : r * a % 113 ≤ 112 := by omega
  go_enter Try.func110, Try.ntmps110
  go_wp2
  go_quiet ((first | (go_at_call 82; exact quiet_drewN (i_times _ _ _ r0 r1 a0 a1)) | (go_at_call 89; exact quiet_drewN (i_plus _ _ _ x0 x1 p0 p1))))
  go_wp2
  go_ret
  exact ⟨rfl, below_drewN (Below.refl _ _) _⟩
theorem half_len {zs xs : List Int} {b k n' : Nat} (hz : zs.length = 2 ^ b) (hb : n' ≤ b) (hx : xs.length = n') (hk : k < n') : (foldsL zs (xs.take k)).length = 2 * ((foldsL zs (xs.take k)).length / 2) := by
  have h1 := foldsL_length zs (xs.take k) b hz (by rw [List.length_take]; omega)
  rw [List.length_take, Nat.min_eq_left (by omega)] at h1
  obtain ⟨q, hq⟩ : ∃ q, b - k = q + 1 := ⟨b - k - 1, by omega⟩
  rw [hq, Nat.pow_succ] at h1
  omega
/-- the first k places filled -/
def fillL (zs : List Int) (x : Int) (m k : Nat) : List Int := foldL zs x k ++ List.replicate (m - k) 0
theorem fillL_length (zs : List Int) (x : Int) (m k : Nat) (h : k ≤ m) : (fillL zs x m k).length = m := by simp [fillL, foldL_length]; omega
theorem fillL_step (zs : List Int) (x : Int) (m k : Nat) (h : k < m) : (fillL zs x m k).set k (foldV (zs.getD (2 * k) 0) (zs.getD (2 * k + 1) 0) x) = fillL zs x m (k + 1) := by
  unfold fillL
  rw [List.set_append_right _ _ (by rw [foldL_length]; omega), foldL_length, Nat.sub_self, show m - k = (m - (k + 1)) + 1 by omega, List.replicate_succ, List.set_cons_zero, foldL_succ, List.append_assoc]; rfl
theorem fillL_all (zs : List Int) (x : Int) (m : Nat) : fillL zs x m m = foldL zs x m := by simp [fillL]
set_option maxHeartbeats 4000000 in
theorem i_replaced (A : Option Addr) (n c b : Nat) (zs : List Int) (A' : Option Addr) (n' c' : Nat) (xs : List Int) (w : World) (h : Rd w w.heap.size 1 A n (cI zs)) (h' : Rd w w.heap.size 1 A' n' (cI xs)) (hz : zs.length = 2 ^ b) (hb : n' ≤ b) (hb3 : b ≤ 3) (hN : Nums zs) (hX : Nums xs) :
    Calls Try.prog 90 #[.slice A n c, .slice A' n' c'] w fun e w' => ∃ A2 q2 c2, e = .returned (.slice A2 q2 c2) ∧ Rd w' w'.heap.size 1 A2 q2 (cI (foldsL zs xs)) ∧ Below w.heap.size w w' := by
  have hlen : Hid (zs.length = n) := Lib.hid h.len
  have hlen' : Hid (xs.length = n') := Lib.hid h'.len
  have HZ2 := Lib.hid hz
  have hn8 : n ≤ 8 := by have := h.len; have h8 : 2 ^ b ≤ 2 ^ 3 := Nat.pow_le_pow_right (by omega) hb3; omega
  have HN := Lib.hid hN
  have HXN := Lib.hid hX
  have H := Lib.hid h
  have H' := Lib.hid h'
  have hn' : n' ≤ 3 := by omega
  have HB3 := Lib.hid (And.intro hb hb3)
  clear h h' hz hN hX hb hb3
  go_enter Try.func90, Try.ntmps90
  go_wp2
  go_loopw [0, 11] (fun cu i wr => ∃ (k q cc : Nat) (Ac : Option Addr), k ≤ n' ∧ i = .int .i64 k ∧ cu = .slice Ac q cc ∧ q ≤ 8 ∧ Hid (Rd wr wr.heap.size 1 Ac q (cI (foldsL zs (xs.take k)))) ∧ Hid (Below w.heap.size w wr)) (fun _ i _ => n' - (intOf i).toNat)
  case atStart => exact ⟨0, n, c, A, Nat.zero_le _, rfl, rfl, hn8, H, Lib.hid (Below.refl _ _)⟩
  case round =>
    obtain ⟨k, q, cc, Ac, hk, rfl, rfl, hq8, HC, HB⟩ := hrel
    by_cases hlt : k < n'
    · obtain ⟨ax, x, rfl, hax, hx0, HX⟩ := H'.out.intAt hlt
      have hx := (HB.out.cell (p := ax.add k) (by rw [add_block]; exact hax)).trans hx0
      have x0 : 0 ≤ x := by rw [HX.out]; exact (HXN.out _).1
      have x1 : x ≤ 112 := by rw [HX.out]; exact (HXN.out _).2
      have HQL := HC.out.len
      have HLH := half_len (k := k) HZ2.out HB3.out.1 hlen'.out hlt
      have HST : Hid (foldsL zs (xs.take (k + 1)) = foldL (foldsL zs (xs.take k)) x (q / 2)) := Lib.hid (by rw [foldsL_take _ _ _ (by have := hlen'.out; omega), ← HX.out, HQL])
      have HNC : Hid (Nums (foldsL zs (xs.take k))) := Lib.hid (foldsL_nums HN.out _)
      rw [HQL] at HLH
      have HQ : Hid (q = 2 * (q / 2)) := Lib.hid HLH
      obtain ⟨q2, hq2⟩ : ∃ q2, Hid (q / 2 = q2) := ⟨_, Lib.hid rfl⟩
      have hquo : (q : Int).tdiv 2 = (q2 : Int) := by rw [Int.tdiv_eq_ediv_of_nonneg (by omega), ← hq2.out]; omega
      rw [hq2.out] at HST HQ
      have hq28 : q2 ≤ 8 := by rw [← hq2.out]; omega
      obtain ⟨zc, hzc⟩ : ∃ zc, Hid (foldsL zs (xs.take k) = zc) := ⟨_, Lib.hid rfl⟩
      rw [hzc.out] at HST HNC HC
      have hmk := fun W => run_make1 (P := Try.prog) Try.underlying60 info_int rfl q2 (by omega) (by omega) W
      obtain ⟨W1, hW1⟩ : ∃ W, Hid (wr.alloc (.cells (Array.replicate q2 (.int .i64 0)) 3) = W) := ⟨_, Lib.hid rfl⟩
      have HO1 : Hid (Ow W1 wr.heap.size (wr.heap.size + 1) 3 1 (some ⟨wr.heap.size, 0, none⟩) q2 q2 (cI (fillL zc x q2 0))) := Lib.hid (by
        rw [← hW1.out]
        have := Ow.zeros wr (.int .i64 0) 3 q2
        rw [cI_zeros] at this
        simpa [fillL, foldL] using this)
      have HBr1 : Hid (Below wr.heap.size wr W1) := Lib.hid (by rw [← hW1.out]; exact (Below.refl _ _).alloc (Nat.le_refl _) _)
      have hz1 : wr.heap.size + 1 ≤ W1.heap.size := by rw [← hW1.out]; simp
      have HZW := Lib.hid HB.out.size
      clear HLH HQL HX hx0 hq2 hzc
      go_wp2
      rw [hW1.out]
      clear hW1 hmk hx hquo
      obtain ⟨wo, rfl⟩ : ∃ wo : World, wo = wr := ⟨_, rfl⟩
      go_loopw [21] (fun i wr => ∃ k2 : Nat, k2 ≤ q2 ∧ i = .int .i64 k2 ∧ wo.heap.size + 1 ≤ wr.heap.size ∧ Hid (Ow wr wo.heap.size (wo.heap.size + 1) 3 1 (some ⟨wo.heap.size, 0, none⟩) q2 q2 (cI (fillL zc x q2 k2))) ∧ Hid (Below wo.heap.size wo wr)) (fun i _ => q2 - (intOf i).toNat)
      case atStart => exact ⟨0, Nat.zero_le _, rfl, hz1, HO1, HBr1⟩
      case round =>
        clear HO1 HBr1 hz1
        obtain ⟨k2, hk2, rfl, hzw2, HW, HB2⟩ := hrel
        by_cases hlt2 : k2 < q2
        · obtain ⟨J, HJ⟩ : ∃ J, Hid (J = 2 * k2) := ⟨_, Lib.hid rfl⟩
          have hJ1 : J + 1 < q := by have := HQ.out; have := HJ.out; omega
          obtain ⟨a, p, rfl, hab, hp0, HP⟩ := HC.out.intAt (show J < q by omega)
          obtain ⟨a2, r, ea, _, hr0, HR⟩ := HC.out.intAt hJ1
          injection ea with ea
          subst ea
          rw [add_succ] at hr0
          have hba : (a.add J).block < wo.heap.size := by rw [add_block]; exact hab
          have HP0 := Lib.hid hp0
          have HR0 := Lib.hid hr0
          have p0 : 0 ≤ p := by rw [HP.out]; exact (HNC.out _).1
          have p1 : p ≤ 112 := by rw [HP.out]; exact (HNC.out _).2
          have r0 : 0 ≤ r := by rw [HR.out]; exact (HNC.out _).1
          have r1 : r ≤ 112 := by rw [HR.out]; exact (HNC.out _).2
          obtain ⟨V, hV⟩ : ∃ V, Hid ((p + (r - p) % 113 * x % 113) % 113 = V) := ⟨_, Lib.hid rfl⟩
          obtain ⟨E, hE, E0, E1⟩ : ∃ E, Hid ((r - p) % 113 = E) ∧ 0 ≤ E ∧ E ≤ 112 := ⟨_, Lib.hid rfl, by omega, by omega⟩
          have HST2 : Hid ((fillL zc x q2 k2).set k2 V = fillL zc x q2 (k2 + 1)) := Lib.hid (by rw [← fillL_step _ _ _ _ hlt2, ← hV.out, foldV_is, HP.out, HR.out, HJ.out])
          have hfl : k2 < (fillL zc x q2 k2).length := by rw [fillL_length _ _ _ _ hk2]; exact hlt2
          have HLO := fun W => Lib.hid (i_lineOf p r W p0 p1 r0 r1)
          have HL1 := fun b hi W h => Lib.hid (i_line1 b hi p E x W h p0 p1 E0 E1 x0 x1)
          rw [hE.out] at hV HLO
          rw [hV.out] at HL1
          have iw : IntKind.i64.wrap (2 * (k2 : Int)) = (J : Int) := by rw [HJ.out]; exact IntWalk.i64_in _ (by omega)
          have iw2 : IntKind.i64.wrap ((J : Int) + 1) = (J : Int) + 1 := IntWalk.i64_in _ (by omega)
          have it2 : ((J : Int) + 1).toNat = J + 1 := by omega
          have i0 : (0 : Int) ≤ (J : Int) := by omega
          have i1 : (J : Int) < (q : Int) := by omega
          have i2 : (0 : Int) ≤ (J : Int) + 1 := by omega
          have i3 : (J : Int) + 1 < (q : Int) := by omega
          have i4 : (0 : Int) ≤ (k2 : Int) := by omega
          have i5 : (k2 : Int) < (q2 : Int) := by omega
          have HB := HB2
          clear HB2 hp0 hr0 HP HR HJ hV hE hJ1
          go_wp2
          refine wp_region_held_drew (S := fun w' => w'.cell? (a.add J) = some (.int .i64 p) ∧ w'.cell? ⟨a.block, a.off + (J + 1), none⟩ = some (.int .i64 r)) (by kernel_rfl) ⟨(HB.out.cell (p := (a.add J)) hba).trans HP0.out, (HB.out.cell (p := ⟨a.block, a.off + (J + 1), none⟩) hab).trans HR0.out⟩ (fun hHeld => ?_)
          obtain ⟨u0, hu0⟩ : ∃ u0, Hid (wr.drew = u0) := ⟨_, Lib.hid rfl⟩
          rw [hu0.out] at hHeld ⊢
          have zs0 : wr.heap.size = u0.heap.size := by rw [← hu0.out]; rfl
          replace zs0 := Nat.le_of_eq zs0
          have HBl0 : Hid (Below wo.heap.size wo u0) := Lib.hid (by rw [← hu0.out]; exact HB.out.drew)
          have HW0 : Hid (Ow u0 wo.heap.size (wo.heap.size + 1) 3 1 (some ⟨wo.heap.size, 0, none⟩) q2 q2 (cI (fillL zc x q2 k2))) := Lib.hid (by rw [← hu0.out]; exact HW.out)
          clear hu0
          refine wpAnyH_take (i := 0) (oi := { dst := some 24, op := Op.move (Operand.tmp 7), type := 60, pos := "l17_sums.go:42", after := #[], guard := none }) (v := ?_) rfl (by kernel_rfl) (by kernel_rfl) (by kernel_rfl) (fun _ _ _ h => h) (Or.inl ⟨by rfl, ?_⟩) hHeld ?_
          rotate_left
          · intro w hSw; obtain ⟨s0, s1⟩ := hSw; (try dsimp only at hSw); go_simp; (try with_reducible rfl)
          try simp only [Act.put, List.setIfInBounds_toArray, List.set_cons_zero, List.set_cons_succ]
          refine wpAnyH_take (i := 1) (oi := { dst := some 25, op := Op.move (Operand.tmp 8), type := 3, pos := "l17_sums.go:42", after := #[], guard := none }) (v := ?_) rfl (by kernel_rfl) (by kernel_rfl) (by kernel_rfl) (fun _ _ _ h => h) (Or.inl ⟨by rfl, ?_⟩) hHeld ?_
          rotate_left
          · intro w hSw; obtain ⟨s0, s1⟩ := hSw; (try dsimp only at hSw); go_simp; (try with_reducible rfl)
          try simp only [Act.put, List.setIfInBounds_toArray, List.set_cons_zero, List.set_cons_succ]
          refine wpAnyH_take (i := 2) (oi := { dst := some 26, op := Op.move (Operand.tmp 0), type := 60, pos := "l17_sums.go:42", after := #[], guard := none }) (v := ?_) rfl (by kernel_rfl) (by kernel_rfl) (by kernel_rfl) (fun _ _ _ h => h) (Or.inl ⟨by rfl, ?_⟩) hHeld ?_
          rotate_left
          · intro w hSw; obtain ⟨s0, s1⟩ := hSw; (try dsimp only at hSw); go_simp; (try with_reducible rfl)
          try simp only [Act.put, List.setIfInBounds_toArray, List.set_cons_zero, List.set_cons_succ]
          refine wpAnyH_take (i := 3) (oi := { dst := some 27, op := Op.move (Operand.tmp 8), type := 3, pos := "l17_sums.go:42", after := #[], guard := none }) (v := ?_) rfl (by kernel_rfl) (by kernel_rfl) (by kernel_rfl) (fun _ _ _ h => h) (Or.inl ⟨by rfl, ?_⟩) hHeld ?_
          rotate_left
          · intro w hSw; obtain ⟨s0, s1⟩ := hSw; (try dsimp only at hSw); go_simp; (try with_reducible rfl)
          try simp only [Act.put, List.setIfInBounds_toArray, List.set_cons_zero, List.set_cons_succ]
          refine wpAnyH_take (i := 4) (oi := { dst := some 28, op := Op.binOp BinOp.mul 3 (Operand.const (Value.int IntKind.i64 2)) (Operand.tmp 27) 3, type := 3, pos := "l17_sums.go:42", after := #[{ on := 3, ground := Ground.data }], guard := none }) (v := ?_) rfl (by kernel_rfl) (by kernel_rfl) (by kernel_rfl) (fun _ _ _ h => h) (Or.inl ⟨by rfl, ?_⟩) hHeld ?_
          rotate_left
          · intro w hSw; obtain ⟨s0, s1⟩ := hSw; (try dsimp only at hSw); go_simp; (try with_reducible rfl)
          try simp only [Act.put, List.setIfInBounds_toArray, List.set_cons_zero, List.set_cons_succ]
          refine wpAnyH_take (i := 5) (oi := { dst := some 29, op := Op.indexAddr 60 (Operand.tmp 26) (Operand.tmp 28), type := 0, pos := "l17_sums.go:42", after := #[{ on := 2, ground := Ground.data }, { on := 4, ground := Ground.data }], guard := none }) (v := ?_) rfl (by kernel_rfl) (by kernel_rfl) (by kernel_rfl) (fun _ _ _ h => h) (Or.inl ⟨by rfl, ?_⟩) hHeld ?_
          rotate_left
          · intro w hSw; obtain ⟨s0, s1⟩ := hSw; (try dsimp only at hSw); go_simp; (try with_reducible rfl)
          try simp only [Act.put, List.setIfInBounds_toArray, List.set_cons_zero, List.set_cons_succ]
          refine wpAnyH_take (i := 6) (oi := { dst := some 30, op := Op.load 3 (Operand.tmp 29), type := 3, pos := "l17_sums.go:42", after := #[{ on := 5, ground := Ground.data }], guard := none }) (v := ?_) rfl (by kernel_rfl) (by kernel_rfl) (by kernel_rfl) (fun _ _ _ h => h) (Or.inl ⟨by rfl, ?_⟩) hHeld ?_
          rotate_left
          · intro w hSw; obtain ⟨s0, s1⟩ := hSw; (try dsimp only at hSw); go_simp; (try with_reducible rfl)
          try simp only [Act.put, List.setIfInBounds_toArray, List.set_cons_zero, List.set_cons_succ]
          refine wpAnyH_take (i := 7) (oi := { dst := some 31, op := Op.move (Operand.tmp 0), type := 60, pos := "l17_sums.go:42", after := #[], guard := none }) (v := ?_) rfl (by kernel_rfl) (by kernel_rfl) (by kernel_rfl) (fun _ _ _ h => h) (Or.inl ⟨by rfl, ?_⟩) hHeld ?_
          rotate_left
          · intro w hSw; obtain ⟨s0, s1⟩ := hSw; (try dsimp only at hSw); go_simp; (try with_reducible rfl)
          try simp only [Act.put, List.setIfInBounds_toArray, List.set_cons_zero, List.set_cons_succ]
          refine wpAnyH_take (i := 8) (oi := { dst := some 32, op := Op.move (Operand.tmp 8), type := 3, pos := "l17_sums.go:42", after := #[], guard := none }) (v := ?_) rfl (by kernel_rfl) (by kernel_rfl) (by kernel_rfl) (fun _ _ _ h => h) (Or.inl ⟨by rfl, ?_⟩) hHeld ?_
          rotate_left
          · intro w hSw; obtain ⟨s0, s1⟩ := hSw; (try dsimp only at hSw); go_simp; (try with_reducible rfl)
          try simp only [Act.put, List.setIfInBounds_toArray, List.set_cons_zero, List.set_cons_succ]
          refine wpAnyH_take (i := 9) (oi := { dst := some 33, op := Op.binOp BinOp.mul 3 (Operand.const (Value.int IntKind.i64 2)) (Operand.tmp 32) 3, type := 3, pos := "l17_sums.go:42", after := #[{ on := 8, ground := Ground.data }], guard := none }) (v := ?_) rfl (by kernel_rfl) (by kernel_rfl) (by kernel_rfl) (fun _ _ _ h => h) (Or.inl ⟨by rfl, ?_⟩) hHeld ?_
          rotate_left
          · intro w hSw; obtain ⟨s0, s1⟩ := hSw; (try dsimp only at hSw); go_simp; (try with_reducible rfl)
          try simp only [Act.put, List.setIfInBounds_toArray, List.set_cons_zero, List.set_cons_succ]
          refine wpAnyH_take (i := 10) (oi := { dst := some 34, op := Op.binOp BinOp.add 3 (Operand.tmp 33) (Operand.const (Value.int IntKind.i64 1)) 3, type := 3, pos := "l17_sums.go:42", after := #[{ on := 9, ground := Ground.data }], guard := none }) (v := ?_) rfl (by kernel_rfl) (by kernel_rfl) (by kernel_rfl) (fun _ _ _ h => h) (Or.inl ⟨by rfl, ?_⟩) hHeld ?_
          rotate_left
          · intro w hSw; obtain ⟨s0, s1⟩ := hSw; (try dsimp only at hSw); go_simp; (try with_reducible rfl)
          try simp only [Act.put, List.setIfInBounds_toArray, List.set_cons_zero, List.set_cons_succ]
          refine wpAnyH_take (i := 11) (oi := { dst := some 35, op := Op.indexAddr 60 (Operand.tmp 31) (Operand.tmp 34), type := 0, pos := "l17_sums.go:42", after := #[{ on := 7, ground := Ground.data }, { on := 10, ground := Ground.data }], guard := none }) (v := ?_) rfl (by kernel_rfl) (by kernel_rfl) (by kernel_rfl) (fun _ _ _ h => h) (Or.inl ⟨by rfl, ?_⟩) hHeld ?_
          rotate_left
          · intro w hSw; obtain ⟨s0, s1⟩ := hSw; (try dsimp only at hSw); go_simp; (try with_reducible rfl)
          try simp only [Act.put, List.setIfInBounds_toArray, List.set_cons_zero, List.set_cons_succ]
          refine wpAnyH_take (i := 12) (oi := { dst := some 36, op := Op.load 3 (Operand.tmp 35), type := 3, pos := "l17_sums.go:42", after := #[{ on := 11, ground := Ground.data }], guard := none }) (v := ?_) rfl (by kernel_rfl) (by kernel_rfl) (by kernel_rfl) (fun _ _ _ h => h) (Or.inl ⟨by rfl, ?_⟩) hHeld ?_
          rotate_left
          · intro w hSw; obtain ⟨s0, s1⟩ := hSw; (try dsimp only at hSw); go_simp; (try with_reducible rfl)
          try simp only [Act.put, List.setIfInBounds_toArray, List.set_cons_zero, List.set_cons_succ]
          refine wpAnyH_take (i := 13) (oi := { dst := some 37, op := Op.build 44 #[(0, Operand.tmp 30), (1, Operand.tmp 36)], type := 44, pos := "l17_sums.go:42", after := #[{ on := 6, ground := Ground.data }, { on := 12, ground := Ground.data }], guard := none }) (v := ?_) rfl (by kernel_rfl) (by kernel_rfl) (by kernel_rfl) (fun _ _ _ h => h) (Or.inl ⟨by rfl, ?_⟩) hHeld ?_
          rotate_left
          · intro w hSw; obtain ⟨s0, s1⟩ := hSw; (try dsimp only at hSw); go_simp; (try with_reducible rfl)
          try simp only [Act.put, List.setIfInBounds_toArray, List.set_cons_zero, List.set_cons_succ]
          refine wpAnyH_take (i := 15) (oi := { dst := some 39, op := Op.move (Operand.tmp 6), type := 3, pos := "l17_sums.go:42", after := #[], guard := none }) (v := ?_) rfl (by kernel_rfl) (by kernel_rfl) (by kernel_rfl) (fun _ _ _ h => h) (Or.inl ⟨by rfl, ?_⟩) hHeld ?_
          rotate_left
          · intro w hSw; obtain ⟨s0, s1⟩ := hSw; (try dsimp only at hSw); go_simp; (try with_reducible rfl)
          try simp only [Act.put, List.setIfInBounds_toArray, List.set_cons_zero, List.set_cons_succ]
          refine wpAnyH_ready (rs := [14]) (by kernel_rfl) (by simp) ?_
          refine AllReadyH.cons (o := { dst := some 38, op := Op.call { callee := Callee.value (Operand.func 95), args := #[Operand.tmp 37], argTypes := #[44] }, type := 103, pos := "l17_sums.go:42", after := #[{ on := 13, ground := Ground.data }], guard := none }) rfl (fun K hK => ?_) ?_
          · go_simp
            refine ((HLO u0).out).mono ?_
            rintro e u1 ⟨rfl, h_ln, hb_⟩
            have zs1 : u0.heap.size ≤ u1.heap.size := hb_.size
            have HBl1 : Hid (Below wo.heap.size wo u1) := Lib.hid (HBl0.out.trans (hb_.mono HBl0.out.size))
            have HW1 : Hid (Ow u1 wo.heap.size (wo.heap.size + 1) 3 1 (some ⟨wo.heap.size, 0, none⟩) q2 q2 (cI (fillL zc x q2 k2))) := Lib.hid (HW0.out.below hb_ (by omega))
            have HO_ln1 := Lib.hid h_ln
            clear hHeld hb_ HBl0 HW0 h_ln
            (try dsimp only)
            (try go_wp2_with fail)
            refine hK.out _ _ ⟨((HBl1.out.cell (p := (a.add J)) hba).trans HP0.out), ((HBl1.out.cell (p := ⟨a.block, a.off + (J + 1), none⟩) hab).trans HR0.out)⟩ (fun hHeld => ?_)
            clear hK K
            try simp only [Act.put, List.setIfInBounds_toArray, List.set_cons_zero, List.set_cons_succ]
            refine wpAnyH_ready (rs := [16]) (by kernel_rfl) (by simp) ?_
            refine AllReadyH.cons (o := { dst := some 40, op := Op.call { callee := Callee.value (Operand.tmp 38), args := #[Operand.tmp 39], argTypes := #[62] }, type := 62, pos := "l17_sums.go:42", after := #[{ on := 14, ground := Ground.data }, { on := 15, ground := Ground.data }, { on := 14, ground := Ground.chain }], guard := none }) rfl (fun K hK => ?_) ?_
            · go_simp
              refine ((HL1 _ _ u1 HO_ln1.out).out).mono ?_
              rintro e u2 ⟨rfl, hb_⟩
              have zs2 : u1.heap.size ≤ u2.heap.size := hb_.size
              have HBl2 : Hid (Below wo.heap.size wo u2) := Lib.hid (HBl1.out.trans (hb_.mono HBl1.out.size))
              have HO_ln2 := Lib.hid (HO_ln1.out.below hb_ (by omega))
              have HW2 : Hid (Ow u2 wo.heap.size (wo.heap.size + 1) 3 1 (some ⟨wo.heap.size, 0, none⟩) q2 q2 (cI (fillL zc x q2 k2))) := Lib.hid (HW1.out.below hb_ (by omega))
              clear hHeld hb_ HBl1 HO_ln1 HW1
              (try dsimp only)
              (try go_wp2_with fail)
              refine hK.out _ _ ⟨((HBl2.out.cell (p := (a.add J)) hba).trans HP0.out), ((HBl2.out.cell (p := ⟨a.block, a.off + (J + 1), none⟩) hab).trans HR0.out)⟩ (fun hHeld => ?_)
              clear hK K
              try simp only [Act.put, List.setIfInBounds_toArray, List.set_cons_zero, List.set_cons_succ]
              refine wpAnyH_take (i := 17) (oi := { dst := some 41, op := Op.indexAddr 60 (Operand.tmp 24) (Operand.tmp 25), type := 0, pos := "l17_sums.go:42", after := #[{ on := 0, ground := Ground.data }, { on := 1, ground := Ground.data }, { on := 0, ground := Ground.phase }, { on := 1, ground := Ground.phase }, { on := 2, ground := Ground.phase }, { on := 3, ground := Ground.phase }, { on := 4, ground := Ground.phase }, { on := 5, ground := Ground.phase }, { on := 6, ground := Ground.phase }, { on := 7, ground := Ground.phase }, { on := 8, ground := Ground.phase }, { on := 9, ground := Ground.phase }, { on := 10, ground := Ground.phase }, { on := 11, ground := Ground.phase }, { on := 12, ground := Ground.phase }, { on := 13, ground := Ground.phase }, { on := 14, ground := Ground.phase }, { on := 15, ground := Ground.phase }, { on := 16, ground := Ground.phase }], guard := none }) (v := ?_) rfl (by kernel_rfl) (by kernel_rfl) (by kernel_rfl) (fun _ _ _ h => h) (Or.inl ⟨by rfl, ?_⟩) hHeld ?_
              rotate_left
              · intro w hSw; obtain ⟨s0, s1⟩ := hSw; (try dsimp only at hSw); go_simp; (try with_reducible rfl)
              try simp only [Act.put, List.setIfInBounds_toArray, List.set_cons_zero, List.set_cons_succ]
              refine wpAnyH_ready (rs := [18]) (by kernel_rfl) (by simp) ?_
              refine AllReadyH.cons (o := { dst := none, op := Op.store 3 (Operand.tmp 41) (Operand.tmp 40), type := 0, pos := "l17_sums.go:42", after := #[{ on := 17, ground := Ground.data }, { on := 16, ground := Ground.data }, { on := 16, ground := Ground.chain }, { on := 0, ground := Ground.phase }, { on := 1, ground := Ground.phase }, { on := 2, ground := Ground.phase }, { on := 3, ground := Ground.phase }, { on := 4, ground := Ground.phase }, { on := 5, ground := Ground.phase }, { on := 6, ground := Ground.phase }, { on := 7, ground := Ground.phase }, { on := 8, ground := Ground.phase }, { on := 9, ground := Ground.phase }, { on := 10, ground := Ground.phase }, { on := 11, ground := Ground.phase }, { on := 12, ground := Ground.phase }, { on := 13, ground := Ground.phase }, { on := 14, ground := Ground.phase }, { on := 15, ground := Ground.phase }, { on := 16, ground := Ground.phase }], guard := none }) rfl (fun K hK => ?_) ?_
              · have xc : u2.cell? ⟨wo.heap.size, k2, none⟩ = some _ := HW2.out.cellAt (cI_get _ _ (hfl))
                have xf : u2.frozen? ⟨wo.heap.size, k2, none⟩ = false := HW2.out.free (by omega) (k2)
                go_simp
                obtain ⟨u3, hw3⟩ : ∃ W, Hid ((u2.setCell ⟨wo.heap.size, k2, none⟩ (.int .i64 V)) = W) := ⟨_, Lib.hid rfl⟩
                rw [hw3.out]
                have hk3 : Kept (wo.heap.size) (wo.heap.size + 1) u2 u3 := by rw [← hw3.out]; exact (Kept.refl _ _ _).setCell (p := ⟨wo.heap.size, k2, none⟩) (Nat.le_refl _) (Nat.lt_succ_self _) _
                have zs3 : u2.heap.size ≤ u3.heap.size := hk3.size
                have HBl3 : Hid (Below wo.heap.size wo u3) := Lib.hid (by rw [← hw3.out]; exact HBl2.out.setCell (p := ⟨wo.heap.size, k2, none⟩) (by simp only; omega) _)
                have HW3 : Hid (Ow u3 wo.heap.size (wo.heap.size + 1) 3 1 (some ⟨wo.heap.size, 0, none⟩) q2 q2 (cI ((fillL zc x q2 k2).set k2 V))) := Lib.hid (by rw [← hw3.out]; have h0 := HW2.out.set (k2) (.int .i64 V); rw [cI_set] at h0; exact h0)
                clear hHeld hw3 hk3 xc xf HBl2 HO_ln2 HW2
                refine hK.out _ _ ⟨((HBl3.out.cell (p := (a.add J)) hba).trans HP0.out), ((HBl3.out.cell (p := ⟨a.block, a.off + (J + 1), none⟩) hab).trans HR0.out)⟩ (fun hHeld => ?_)
                clear hK K
                try simp only [Act.put]
                refine wpAnyH_done (by kernel_rfl) ?_ _
                have HO2 : Hid (Ow u3 wo.heap.size (wo.heap.size + 1) 3 1 (some ⟨wo.heap.size, 0, none⟩) q2 q2 (cI (fillL zc x q2 (k2 + 1)))) := Lib.hid (by rw [← HST2.out]; exact HW3.out)
                have HZ3 : Hid (wo.heap.size + 1 ≤ u3.heap.size) := Lib.hid (by omega)
                go_wp2
                go_roundw
                case rel => exact ⟨k2 + 1, by omega, by go_num, HZ3.out, HO2, HBl3⟩
                case measure => simp [intOf] <;> omega
              exact AllReadyH.nil
            exact AllReadyH.nil
          exact AllReadyH.nil
        · have HC2 : Hid (Rd wr wr.heap.size 1 (some ⟨wo.heap.size, 0, none⟩) q2 (cI (foldsL zs (xs.take (k + 1))))) := Lib.hid (by
            have h0 := HW.out.rd.more (show wo.heap.size + 1 ≤ wr.heap.size from hzw2)
            rw [show k2 = q2 by omega, fillL_all, ← HST.out] at h0; exact h0)
          have HB3 : Hid (Below w.heap.size w wr) := Lib.hid (HB.out.trans (HB2.out.mono HZW.out))
          clear HW HB2 HC HB
          go_wp2
          go_roundw
          case rel => exact ⟨k + 1, q2, q2, _, by omega, by go_num, rfl, hq28, HC2, HB3⟩
          case measure => simp [intOf] <;> omega
    · have HK : Hid (Rd wr wr.heap.size 1 Ac q (cI (foldsL zs xs))) := Lib.hid (by have := HC.out; rw [List.take_of_length_le (by have := hlen'.out; omega)] at this; exact this)
      clear HC
      go_wp2
      go_ret
      exact ⟨_, _, _, rfl, HK.out, HB.out⟩
set_option maxHeartbeats 1000000 in
theorem i_corners_at (A : Option Addr) (n c : Nat) (zs : List Int) (A' : Option Addr) (n' c' : Nat) (xs : List Int) (w : World) (h : Rd w w.heap.size 1 A n (cI zs)) (h' : Rd w w.heap.size 1 A' n' (cI xs)) (hf : fitB zs xs = true) :
    Calls Try.prog 53 #[.slice A n c, .slice A' n' c'] w fun e w' => e = .returned (.int .i64 (cubeAtI zs xs)) ∧ Below w.heap.size w w' := by
  obtain ⟨hc, hx, hxn⟩ := fitB_iff.1 hf
  obtain ⟨c1, c2, c3⟩ := cube_bits hc
  have HL := Lib.hid (foldsL_length zs xs _ c1 (by omega))
  have HC := Lib.hid (i_replaced A n c (bitsK zs.length) zs A' n' c' xs w h h' c1 (by have := h'.len; omega) c3 (cubeB_nums hc) (nums_of_B hxn))
  clear h h' hf hc hx hxn c1 c2 c3
  go_enter Try.func53, Try.ntmps53
  go_wp2_with fail
  refine HC.out.mono ?_
  rintro e w2 ⟨A2, q2, c2, rfl, hr, hb⟩
  have hq : 0 < q2 := by have := hr.len; rw [HL.out] at this; rw [← this]; exact Nat.pow_pos (by omega)
  obtain ⟨a, x, rfl, hab, hx0, HX⟩ := hr.intAt hq
  rw [show a.add 0 = a by simp [Addr.add]] at hx0
  have HF : Hid (x = cubeAtI zs xs) := Lib.hid HX.out
  have HB := Lib.hid hb
  have i1 : (0 : Int) < (q2 : Int) := by omega
  clear HX hr hb HC HL
  go_wp2
  go_ret
  exact ⟨ret_i HF.out, HB.out⟩
set_option maxHeartbeats 1000000 in
theorem X_i_CubeAt (v v' : Value) (d x : List Int) (w : World) (h : RdIntS w w.heap.size v d) (h' : RdIntS w w.heap.size v' x) (hs : szIntS d ≤ 1048576) (hs' : szIntS x ≤ 1048576) :
    Calls Try.prog 20 #[v, v'] w fun e w' => e = .returned (.tuple #[.int .i64 (R_CubeAt_0 d x), .bool (R_CubeAt_1 d x)]) ∧ Below w.heap.size w w' := by
  obtain ⟨A, n, c, rfl, _, r⟩ := h
  obtain ⟨A', n', c', rfl, _, r'⟩ := h'
  have hn : n ≤ 1048576 := by have := r.len; unfold szIntS at hs; omega
  have hn' : n' ≤ 1048576 := by have := r'.len; unfold szIntS at hs'; omega
  have H := Lib.hid r
  have H' := Lib.hid r'
  clear r r' hs hs'
  cases hf : fitB d x
  · have HF := cubeAt_no hf
    go_enter Try.func20, Try.ntmps20
    go_wp2_with fail
    refine (i_fit _ _ _ _ _ _ _ _ _ H.out H'.out hn hn').mono ?_
    rintro e w' ⟨rfl, rfl⟩
    rw [hf]
    go_wp2
    go_ret2
    exact ⟨ret_tib HF.out.1 HF.out.2, Below.refl _ _⟩
  · have HF : Hid (cubeAtI d x = R_CubeAt_0 d x ∧ true = R_CubeAt_1 d x) := Lib.hid ⟨by unfold R_CubeAt_0; rw [if_pos hf], hf.symm⟩
    go_enter Try.func20, Try.ntmps20
    go_wp2_with fail
    refine (i_fit _ _ _ _ _ _ _ _ _ H.out H'.out hn hn').mono ?_
    rintro e w' ⟨rfl, rfl⟩
    rw [hf]
    go_wp2_with fail
    refine (i_corners_at A n c d A' n' c' x _ H.out H'.out hf).mono ?_
    rintro e w2 ⟨rfl, hb2⟩
    have HB2 := Lib.hid hb2
    clear hb2
    go_wp2
    go_ret2
    exact ⟨ret_tib HF.out.1 HF.out.2, HB2.out⟩
end Go.Proofs.Ytaiilopfdjbceaa
