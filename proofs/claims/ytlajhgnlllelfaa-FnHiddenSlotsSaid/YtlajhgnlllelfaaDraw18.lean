/- Chapter 13: accesses and a tape, as the plain laws draw them. -/
import Derived.Test.YtlajhgnlllelfaaDraw17
import Derived.ArgAppend
import Derived.Deep.RegionHeld3
import Derived.Deep.RegionLaw
namespace Go.Proofs.Ytlajhgnlllelfaa
open Go.RowKit
set_option maxRecDepth 100000

theorem lit3A (w : World) (a b c : Value) (e : TypeId) : Rd (w.alloc (.cells #[a, b, c] e)) (w.heap.size + 1) 3 (some ⟨w.heap.size, 0, none⟩) 1 [a, b, c] :=
  ⟨rfl, fun _ => ⟨_, rfl, Nat.lt_succ_self _, fun j x hx => by
    rw [add_zero_head, cell_of_row _ _ j _ _ (0, 0) (heap_alloc_new _ _)]; simpa using hx⟩⟩
theorem cAccess_app (xs ys : List (Bool × Int × Int)) : cAccess (xs ++ ys) = cAccess xs ++ cAccess ys := by simp [cAccess]
theorem cAccess_one (zs : List (Bool × Int × Int)) : ∀ u ∈ cAccess zs, u.oneCell' = true := by
  induction zs with
  | nil => intro u hu; simp [cAccess] at hu
  | cons a t ih =>
    intro u hu
    rw [cAccess_cons] at hu
    simp only [List.mem_cons] at hu
    rcases hu with rfl | rfl | rfl | hu
    · rfl
    · rfl
    · rfl
    · exact ih u hu
theorem done_acc {w1 : World} {B n c : Nat} {A : Option Addr} {ys : List (Bool × Int × Int)} (h : w1.ownsRow B 47 3 (.slice A n c) n (cAccess ys)) (hs : n ≤ 1048576) : OwAccessS w1 B w1.heap.size (.slice A n c) ys := by
  obtain ⟨A', c', he, ho⟩ := Ow.of_own h
  injection he with h1 h2 h3
  subst h1 h3
  exact ⟨by have := ho.Accesslen; omega, A, n, c, rfl, ho⟩
/-- an append behind a list of numbers of one's own whose first is cut off: some value, in a world where no other block has changed -/
theorem run_tail {P : Program} {w : World} (t ty : TypeId) (ht : P.underlying t = some (.slice 3)) (hi : (P.info? 3).map (fun i => (i.zero, i.size, i.bytes)) = some (some (.int .i64 0), 1, 8))
    (g k c : Nat) (cs : Array Value) (hb : w.heap[g]? = some (.cells cs 3 (0, 0))) (hs : cs.size = c + 1) (hk : k ≤ c) (hk2 : k ≤ 1000) (b : Addr) (c2 : Nat) (x : Int) (hx : w.cell? b = some (.int .i64 x)) :
    ∃ v' w', (Builtin.append_ #[t, t] ty #[.slice (some ⟨g, 1, none⟩) k c, .slice (some b) 1 c2]).run P w = .ok v' w' ∧ w.grownBy w' (some g) := by
  obtain ⟨i, hii, hz0, hz1, hz2⟩ := info_parts hi
  have hnew : ∀ (j : Nat) (u : Value), [Value.int .i64 x][j]? = some u → w.cell? (b.add j) = some u := by
    intro j u hj
    have hj0 : j = 0 := by have := (List.getElem?_eq_some_iff.1 hj).1; simp at this; exact this
    subst hj0
    have hu : Value.int .i64 x = u := by simpa using hj
    rw [show b.add 0 = b by simp [Addr.add], ← hu]; exact hx
  by_cases hr : k + 1 ≤ c
  · have hrun := run_append_room_cells (P := P) w t ty 3 i ht hii g 1 k c b 1 c2 [.int .i64 x] (by rw [hz1]; rfl) hnew (by simp [Value.oneCell']) hr
      (fun j hj => by
        have hj0 : j = 0 := by simp at hj; exact hj
        subst hj0
        rw [hz1, cell_of_row w g _ cs 3 (0, 0) hb, Array.getElem?_eq_getElem (by omega)]; rfl)
      (fun j _ => frozen_of_row w g _ cs 3 hb)
    refine ⟨_, _, hrun, rfl, rfl, rfl, ?_, fun m hm hne => ?_⟩
    · show w.heap.size ≤ (w.setCell _ _).heap.size
      rw [World.size_setCell]; exact Nat.le_refl _
    · exact Below.heap_setCell _ _ _ _ (fun e => hne (by rw [show m = g from e]))
  · obtain ⟨v', w', hrun, _, hgr⟩ := run_append_arg_grows (P := P) w t ty 3 i (.int .i64 0) 1 8 ht hii hz0 hz1 hz2 rfl (by decide) ⟨g, 1, none⟩ k c ((cs.toList.drop 1).take k) (by rw [List.length_take, List.length_drop]; simp; omega)
      (fun j u hj => by
        rw [Addr.add_lit, cell_of_row w g _ cs 3 (0, 0) hb]
        rw [List.getElem?_take] at hj
        split at hj
        · rw [List.getElem?_drop] at hj; simpa using hj
        · cases hj) b 1 c2 [.int .i64 x] rfl hnew (by omega) (by unfold maxLen; omega) (by omega)
    exact ⟨v', w', hrun, hgr.os, hgr.tape, hgr.output, hgr.size, fun m hm _ => hgr.block m hm (by simp)⟩
theorem step_tail {P : Program} {w : World} {ops : Array Oper} {o : Oper} {a : Act} {K : Act → World → Prop} {Q : Exit → Act → World → Prop} {E : Prop} (hgd : o.guard = none) (s x : Operand) (t : TypeId)
    (ho : o.op = .call { callee := .builtin .append, args := #[s, x], argTypes := #[t, t] })
    (ht : P.underlying t = some (.slice 3)) (hi : (P.info? 3).map (fun i => (i.zero, i.size, i.bytes)) = some (some (.int .i64 0), 1, 8))
    (g k c : Nat) (cs : Array Value) (b : Addr) (c2 : Nat) (z : Int) (hs : a.eval s = .slice (some ⟨g, 1, none⟩) k c) (hx : a.eval x = .slice (some b) 1 c2) (hb : w.heap[g]? = some (.cells cs 3 (0, 0))) (hsz : cs.size = c + 1) (hk : k ≤ c) (hk2 : k ≤ 1000)
    (hz : w.cell? b = some (.int .i64 z))
    (h : ∀ v' w', w.grownBy w' (some g) → K (a.put o.dst v') w') :
    if Region.wanted o (yielded ops a.tmps) = true then Oper.wp P o a w K Q else E := by
  have hw : Region.wanted o (yielded ops a.tmps) = true := by simp [Region.wanted, hgd]
  rw [if_pos hw]
  obtain ⟨v', w', hrun, h2⟩ := run_tail (P := P) (w := w) t o.type ht hi g k c cs hb hsz hk hk2 b c2 z hz
  unfold Oper.wp execOp
  simp only [ho, resolve, invoke, builtin, Sem.run_bind, Sem.run_pure, Result.andThen_ok, List.map_toArray, List.map_cons, List.map_nil, hs, hx, hrun]
  exact h v' w' h2
theorem grow_in {w wr w6 : World} {g hi q k co e s B : Nat} {Ao : Option Addr} {zs : List Value} {A : Option Addr} {n c : Nat} {bs : List Int} {o : Obj}
    (HO : wr.ownsRow B e s (.slice Ao k co) k zs) (HR : Rdr wr g hi q A n c bs) (HK : Kept g (g + 1) w wr) (hg : g < w.heap.size) (hB : w.heap.size ≤ B) (hgr : (wr.alloc o).grownBy w6 (Value.ownBlock (.slice Ao k co))) :
    Rdr w6 g hi q A n c bs ∧ Kept g (g + 1) w w6 ∧ (B ≤ wr.heap.size → Below B wr w6) := by
  have hz := HK.size
  have hlow := HR.low
  have hown := own_block HO
  refine ⟨?_, ?_, fun hBw => below_grown ((Below.refl B wr).alloc hBw o) hgr (fun k e => hown k e) (by simp; omega)⟩
  · refine HR.move ?_ ?_
    · rw [hgr.block g (by simp; have := HR.lt; omega) (fun e => by have := hown g e.symm; omega)]
      exact Below.heap_alloc wr o g HR.lt
    · exact below_grown ((Below.refl hi wr).alloc (by have := HR.lt; omega) o) hgr (fun k e => by have := hown k e; omega) (by simp; have := HR.lt; omega)
  · refine ⟨hgr.os.trans HK.os, hgr.tape.trans HK.tape, hgr.output.trans HK.output, Nat.le_trans hz (Nat.le_trans (by simp) hgr.size), fun k hk hn => ?_⟩
    rw [hgr.block k (by simp; omega) (fun e => by have := hown k e.symm; omega), Below.heap_alloc wr o k (by omega)]
    exact HK.block k hk hn
theorem two_at13 (w : World) (a b : Int) (e : TypeId) {j : Nat} (hj : j < 2) : (w.alloc (.cells #[.int .i64 a, .int .i64 b] e)).cell? ⟨w.heap.size, j, none⟩ = some (.int .i64 (if j = 0 then a else b)) := by
  rw [World.cell?_alloc_new]
  rcases (show j = 0 ∨ j = 1 by omega) with rfl | rfl <;> rfl
theorem two_kept13 {w w2 : World} {g : Nat} (a b : Int) (e : TypeId) {j : Nat} (hj : j < 2) (hk : Kept g (g + 1) (w.alloc (.cells #[.int .i64 a, .int .i64 b] e)) w2) (hg : g < w.heap.size) : w2.cell? ⟨w.heap.size, j, none⟩ = some (.int .i64 (if j = 0 then a else b)) :=
  lit4 _ hk hg j _ (by rcases (show j = 0 ∨ j = 1 by omega) with rfl | rfl <;> rfl)
theorem one_at (w : World) (a : Int) (e : TypeId) : (w.alloc (.cells #[.int .i64 a] e)).cell? ⟨w.heap.size, 0, none⟩ = some (.int .i64 a) := by
  rw [World.cell?_alloc_new]; rfl
theorem one_at2 (w : World) (o : Obj) (a : Int) (e : TypeId) : ((w.alloc o).alloc (.cells #[.int .i64 a] e)).cell? ⟨w.heap.size + 1, 0, none⟩ = some (.int .i64 a) := by
  have := one_at (w.alloc o) a e
  rwa [World.size_alloc] at this
theorem tp1 {w : World} {gt : Nat} {o o' : Obj} (h : w.heap[gt]? = some o) : (w.alloc o').heap[gt]? = some o := (Below.heap_alloc w o' gt (Array.getElem?_eq_some_iff.1 h).1).trans h
theorem tp2 {w : World} {gt : Nat} {o o' o'' : Obj} (h : w.heap[gt]? = some o) : ((w.alloc o').alloc o'').heap[gt]? = some o := tp1 (tp1 h)
section
variable {w wr w6 : World} {g hi q B gt : Nat} {A : Option Addr} {n c : Nat} {bs : List Int} {v : Value} {d : List (Bool × Int × Int)} {o o' : Obj}
theorem tail_end (HR : Rdr wr g hi q A n c bs) (HK : Kept g (g + 1) w wr) (HL : OwAccessS wr w.heap.size B v d) (hg : g < w.heap.size) (hB : w.heap.size ≤ B) (hgt : B ≤ gt) (hz : B ≤ wr.heap.size) (hgr : wr.grownBy w6 (some gt)) :
    Rdr w6 g hi q A n c bs ∧ (Kept g (g + 1) w w6 ∧ B ≤ w6.heap.size) ∧ OwAccessS w6 w.heap.size B v d := by
  have hlow := HR.low
  have hb : ∀ l, l ≤ gt → l ≤ wr.heap.size → Below l wr w6 := fun l h1 h2 => ⟨hgr.os, hgr.tape, hgr.output, hgr.size, fun k hk => hgr.block k (by omega) (fun e => by injection e with e; omega)⟩
  refine ⟨HR.move (hgr.block g HR.lt (fun e => by injection e with e; omega)) (hb hi (by omega) (by have := HR.lt; omega)), ⟨⟨hgr.os.trans HK.os, hgr.tape.trans HK.tape, hgr.output.trans HK.output, Nat.le_trans HK.size hgr.size, fun k hk hn => ?_⟩, Nat.le_trans hz hgr.size⟩, HL.below (hb B hgt hz) (Nat.le_refl _)⟩
  rw [hgr.block k (Nat.lt_of_lt_of_le hk HK.size) (fun e => by injection e with e; omega)]
  exact HK.block k hk hn
theorem tail_end1 (HR : Rdr wr g hi q A n c bs) (HK : Kept g (g + 1) w wr) (HL : OwAccessS wr w.heap.size B v d) (hg : g < w.heap.size) (hB : w.heap.size ≤ B) (hgt : B ≤ gt) (hz : B ≤ wr.heap.size) (hgr : (wr.alloc o).grownBy w6 (some gt)) :
    Rdr w6 g hi q A n c bs ∧ (Kept g (g + 1) w w6 ∧ B ≤ w6.heap.size) ∧ OwAccessS w6 w.heap.size B v d :=
  tail_end (HR.alloc o) (HK.trans (kept_alloc _ _ _ o)) (HL.below ((Below.refl B wr).alloc hz o) (Nat.le_refl _)) hg hB hgt (by rw [World.size_alloc]; omega) hgr
theorem tail_end2 (HR : Rdr wr g hi q A n c bs) (HK : Kept g (g + 1) w wr) (HL : OwAccessS wr w.heap.size B v d) (hg : g < w.heap.size) (hB : w.heap.size ≤ B) (hgt : B ≤ gt) (hz : B ≤ wr.heap.size) (hgr : ((wr.alloc o).alloc o').grownBy w6 (some gt)) :
    Rdr w6 g hi q A n c bs ∧ (Kept g (g + 1) w w6 ∧ B ≤ w6.heap.size) ∧ OwAccessS w6 w.heap.size B v d :=
  tail_end1 (HR.alloc o) (HK.trans (kept_alloc _ _ _ o)) (HL.below ((Below.refl B wr).alloc hz o) (Nat.le_refl _)) hg hB hgt (by rw [World.size_alloc]; omega) hgr
end

set_option maxHeartbeats 8000000 in
theorem d_l92Accesses (g hi p : Nat) (A : Option Addr) (n c : Nat) (bs : List Int) (w : World) (h : Rdr w g hi p A n c bs) (hp : p < 800000) :
    Calls Try.prog 67 #[.pointer (some ⟨g, 0, none⟩)] w fun e w' => ∃ vl vt d q, e = .returned (.tuple #[vl, vt]) ∧ OwAccessS w' w.heap.size w'.heap.size vl d ∧ q ≤ p + 2000 ∧ Rdr w' g hi q A n c bs ∧ Kept g (g + 1) w w' := by
  have HG := Lib.hid h.lt
  have H0 := Lib.hid (h.alloc (.cells #[] 47))
  have K0 := Lib.hid (kept_alloc g (g + 1) w (.cells #[] 47))
  have O0 : Hid ((w.alloc (.cells #[] 47)).ownsRow w.heap.size 47 3 (.slice (some ⟨w.heap.size, 0, none⟩) 0 0) 0 (cAccess [])) := Lib.hid (own_empty w _ 3)
  clear h
  go_enter Try.func67, Try.ntmps67
  go_wp2_with fail
  refine (d_pick _ _ _ _ _ _ _ _ _ H0.out (by omega) (by omega) (by omega)).mono ?_
  rintro e w1 ⟨x, rfl, x0, x20, h1, k1⟩
  obtain ⟨m0, rfl⟩ := Int.eq_ofNat_of_zero_le x0
  have O1 := Lib.hid (own_keptH O0.out k1 HG.out)
  have H1 := Lib.hid h1
  have K1 := Lib.hid (K0.out.trans k1)
  have hm0 : m0 < 20 := by omega
  clear h1 k1 H0 K0 O0 x0 x20
  go_wp2
  go_loopw [4, 5] (fun out i wr => ∃ (k j : Nat) (Ao : Option Addr) (co q : Nat) (zs : List (Bool × Int × Int)), k + j ≤ 20 ∧ q ≤ p + 1 + 10 * k ∧ i = .int .i64 j ∧ out = .slice Ao k co ∧ Hid (wr.ownsRow w.heap.size 47 3 (.slice Ao k co) k (cAccess zs)) ∧ Hid (Rdr wr g hi q A n c bs) ∧ Hid (Kept g (g + 1) w wr)) (fun _ i _ => (intOf i).toNat)
  case atStart => exact ⟨0, m0, _, 0, p + 1, [], by omega, by omega, rfl, rfl, O1, H1, K1⟩
  case round =>
    clear O1 H1 K1
    obtain ⟨k, j, Ao, co, q, zs, hkj, hq, rfl, rfl, HO, HR, HK⟩ := hrel
    by_cases hlt : 0 < j
    · have i1 : (0 : Int) < (j : Int) := by omega
      have ij : IntKind.i64.wrap ((j : Int) - 1) = (j : Int) - 1 := IntWalk.i64_in _ (by omega)
      go_wp2_with fail
      refine (d_l92Access _ _ _ _ _ _ _ _ HR.out (by omega)).mono ?_
      rintro e w2 ⟨b, z, v, q2, rfl, hq2, h2, k2⟩
      have HO2 := Lib.hid (own_keptH HO.out k2 HG.out)
      have HR2 := Lib.hid h2
      have HK2 := Lib.hid (HK.out.trans k2)
      clear h2 k2 HO HR HK
      have hzw := HK2.out.size
      have HL : Hid (Rd (w2.alloc (.cells #[.bool b, .int .i64 z, .int .i64 v] 47)) (w2.heap.size + 1) 3 (some ⟨w2.heap.size, 0, none⟩) 1 (cAccess [(b, z, v)])) := Lib.hid (lit3A _ _ _ _ _)
      go_wp2_with (at_builtin
                   refine wpList_append_rd rfl (.tmp 15) (.tmp 18) _ rfl w.heap.size 47 _ 3 24 Try.underlying54 info_Access rfl (by decide) (.slice Ao k co) k _ rfl (HO2.out.alloc _) _ _ 1 1 (cAccess [(b, z, v)]) rfl HL.out (cAccess_one _) (by unfold maxLen; omega) (by omega) (by simp; omega) ?_
                   intro v6 w6 hown hgr hat
                   obtain ⟨A6, c6, hv6, ho6⟩ := Ow.of_own hown
                   subst hv6
                   have HO6 : Hid (w6.ownsRow w.heap.size 47 3 (.slice A6 (k + 1) c6) (k + 1) (cAccess (zs ++ [(b, z, v)]))) := Lib.hid (by rw [cAccess_app]; exact hown)
                   have HG6 := grow_any HO2.out HR2.out HK2.out HG.out hgr
                   have HR6 := Lib.hid HG6.1
                   have HK6 := Lib.hid HG6.2
                   clear HG6 hown hgr hat ho6)
      go_roundw
      case rel => exact ⟨k + 1, j - 1, A6, c6, _, _, by omega, by omega, by go_num, rfl, HO6, HR6, HK6⟩
      case measure => simp [intOf] <;> omega
    · have i1 : ¬ (0 : Int) < (j : Int) := by omega
      have HL := Lib.hid (done_acc HO.out (by omega))
      have HL1 : Hid (OwAccessS (wr.alloc (.cells #[] 3)) w.heap.size wr.heap.size (.slice Ao k co) zs) := Lib.hid (HL.out.below ((Below.refl _ _).alloc (Nat.le_refl _) _) (Nat.le_refl _))
      have HR1 := Lib.hid (HR.out.alloc (.cells #[] 3))
      have HK1 := Lib.hid (HK.out.trans (kept_alloc g (g + 1) wr (.cells #[] 3)))
      have HZ1 : Hid (wr.heap.size ≤ (wr.alloc (.cells #[] 3)).heap.size) := Lib.hid (by simp)
      have HZ0 : Hid (w.heap.size ≤ wr.heap.size) := Lib.hid HK.out.size
      have HT1 : Hid ((wr.alloc (.cells #[] 3)).ownsRow wr.heap.size 3 1 (.slice (some ⟨wr.heap.size, 0, none⟩) 0 0) 0 (cI [])) := Lib.hid (own_empty wr _ 1)
      clear HO HR HK HL
      have hk20 : k ≤ 20 := by omega
      have hq3 : q ≤ p + 201 := by omega
      clear hkj hlt hq
      go_wp2
      clear i1
      obtain ⟨wo, rfl⟩ : ∃ wo, wo = wr := ⟨_, rfl⟩
      go_loopw [6, 7] (fun tp i wr => ∃ (k2 : Nat) (At : Option Addr) (ct q2 : Nat) (ts : List Int), k2 ≤ 31 ∧ q2 ≤ p + 201 + 2 * k2 ∧ i = .int .i64 k2 ∧ tp = .slice At k2 ct ∧ Hid (wr.ownsRow wo.heap.size 3 1 (.slice At k2 ct) k2 (cI ts)) ∧ Hid (OwAccessS wr w.heap.size wo.heap.size (.slice Ao k co) zs) ∧ Hid (Rdr wr g hi q2 A n c bs) ∧ Hid (Kept g (g + 1) w wr) ∧ Hid (wo.heap.size ≤ wr.heap.size)) (fun _ i _ => 31 - (intOf i).toNat)
      case atStart => exact ⟨0, _, 0, q, [], by omega, by omega, rfl, rfl, HT1, HL1, HR1, HK1, HZ1⟩
      case round =>
        clear HT1 HL1 HR1 HK1 HZ1
        obtain ⟨k2, At, ct, q2, ts, hk2, hq2, rfl, rfl, HT, HL, HR, HK, HZ⟩ := hrel
        have i8 : IntKind.i64.wrap (8 + (k : Int)) = 8 + (k : Int) := IntWalk.i64_in _ (by omega)
        go_wp2_with fail
        refine (d_pick _ _ _ _ _ _ _ _ _ HR.out (by omega) (by omega) (by omega)).mono ?_
        rintro e w3 ⟨x, rfl, x0, x3, h3, k3⟩
        have hzr := HZ0.out
        have hzW := HZ.out
        have hz3 := k3.size
        have HGr : Hid (g < wo.heap.size) := Lib.hid (by have := HG.out; omega)
        have HT3 := Lib.hid (own_keptH HT.out k3 HGr.out)
        have HL3 := Lib.hid (HL.out.kept k3 hzW (.inl (by have := HG.out; omega)))
        have HR3 := Lib.hid h3
        have HK3 := Lib.hid (HK.out.trans k3)
        have HZ3 : Hid (wo.heap.size ≤ w3.heap.size) := Lib.hid (by omega)
        clear h3 k3 HT HL HR HK HZ hzr hzW hz3
        have i9 : IntKind.i64.wrap (8 + (k : Int) + x) = 8 + (k : Int) + x := IntWalk.i64_in _ (by omega)
        by_cases hlt2 : (k2 : Int) < 8 + (k : Int) + x
        · go_wp2_with fail
          refine (d_pick _ _ _ _ _ _ _ _ _ HR3.out (by omega) (by omega) (by omega)).mono ?_
          rintro e w4 ⟨y, rfl, y0, y4, h4, k4⟩
          have hz3 := HZ3.out
          have hz4 := k4.size
          have HT4 := Lib.hid (own_keptH HT3.out k4 HGr.out)
          have HL4 := Lib.hid (HL3.out.kept k4 hz3 (.inl (by have := HG.out; have := HZ0.out; omega)))
          have HR4 := Lib.hid h4
          have HK4 := Lib.hid (HK3.out.trans k4)
          clear h4 k4 HT3 HL3 HR3 HK3
          have HLt : Hid (Rd (w4.alloc (.cells #[.int .i64 y] 3)) (w4.heap.size + 1) 1 (some ⟨w4.heap.size, 0, none⟩) 1 (cI [y])) := Lib.hid (lit_at (heap_alloc_new _ _))
          go_wp2_with (at_builtin
                       refine wpList_append_rd rfl (.tmp 31) (.tmp 34) _ rfl wo.heap.size 3 _ 1 8 Try.underlying24 info_int rfl (by decide) (.slice At k2 ct) k2 _ rfl (HT4.out.alloc _) _ _ 1 1 (cI [y]) rfl HLt.out (cI_one _) (by unfold maxLen; omega) (by omega) (by simp; omega) ?_
                       intro v6 w6 hown hgr hat
                       obtain ⟨A6, c6, hv6, ho6⟩ := Ow.of_own hown
                       subst hv6
                       have HT6 : Hid (w6.ownsRow wo.heap.size 3 1 (.slice A6 (k2 + 1) c6) (k2 + 1) (cI (ts ++ [y]))) := Lib.hid (by rw [cI_app]; exact hown)
                       have HG6 := grow_in HT4.out HR4.out HK4.out HG.out HZ0.out hgr
                       have HR6 := Lib.hid HG6.1
                       have HK6 := Lib.hid HG6.2.1
                       have HL6 := Lib.hid (HL4.out.below (HG6.2.2 (by omega)) (Nat.le_refl _))
                       have HZ6 : Hid (wo.heap.size ≤ w6.heap.size) := Lib.hid (by have := hgr.size; rw [World.size_alloc] at this; omega)
                       clear HG6 hown hgr hat ho6)
          go_roundw
          case rel =>
            exact ⟨k2 + 1, A6, c6, _, _, by omega, by omega, by go_num, rfl, HT6, HL6, HR6, HK6, HZ6⟩
          case measure => simp [intOf] <;> omega
        · have h8 : 8 ≤ k2 := by omega
          go_wp2_with fail
          refine (d_pick _ _ _ _ _ _ _ _ _ HR3.out (by omega) (by omega) (by omega)).mono ?_
          rintro e w4 ⟨y, rfl, y0, y30, h4, k4⟩
          have hz3 := HZ3.out
          have hz4 := k4.size
          have hz0 := HZ0.out
          have HT4 := Lib.hid (own_keptH HT3.out k4 HGr.out)
          have HL4 := Lib.hid (HL3.out.kept k4 hz3 (.inl (by have := HG.out; omega)))
          have HR4 := Lib.hid h4
          have HK4 := Lib.hid (HK3.out.trans k4)
          clear h4 k4 HT3 HL3 HR3 HK3
          by_cases hy : y = 0
          · have hb : (y == 0) = true := by simp [hy]
            clear hy
            obtain ⟨_, he | ⟨gt, cap, cur, hv, hge, hh, hnc, hcm, hcs, _⟩⟩ := HT4.out
            · exact absurd he.2 (by omega)
            injection hv with hv1 hv2 hv3
            subst hv1 hv3
            obtain ⟨k3, rfl⟩ : ∃ k3, k2 = k3 + 1 := ⟨k2 - 1, by omega⟩
            obtain ⟨ct3, rfl⟩ : ∃ c3, ct = c3 + 1 := ⟨ct - 1, by omega⟩
            have hc1 : ¬ (ct3 + 1 = 1) := by omega
            have i1 : (1 : Int) ≤ (k3 : Int) + 1 := by omega
            have hkk := HK4.out
            have hod : OwAccessS w4 w.heap.size wo.heap.size (.slice Ao k co) zs := HL4.out
            have htp : w4.heap[gt]? = some (.cells cur 3 (0, 0)) := hh
            have hgt : gt < w4.heap.size := (Array.getElem?_eq_some_iff.1 htp).1
            have HC1 := Lib.hid (d_pick g hi (q2 + 1 + 1) A n c bs 2 w4.drew (HR4.out.drewN 1) (by omega) (by omega) (by omega))
            have HC2 := Lib.hid (d_pick g hi (q2 + 1 + 1) A n c bs 2 (w4.alloc (.cells #[.int .i64 4, .int .i64 0] 3)).drew ((HR4.out.alloc _).drewN 1) (by omega) (by omega) (by omega))
            have hgw := HG.out
            have HCS := Lib.hid hcs
            have HCN := Lib.hid hnc
            clear HR4 HK4 HL4 HT4 hh hcs hnc hcm
            go_wp2
            refine wp_region_held_drew (S := fun _ => True) (by kernel_rfl) trivial (fun hHeld => ?_)
            refine wpAnyH_take (i := 0) (oi := { dst := some 39, op := Op.move (Operand.tmp 6), type := 24, pos := "l92_draw.go:111", after := #[], guard := none }) (v := ?_) rfl (by kernel_rfl) (by kernel_rfl) (by kernel_rfl) (fun _ _ _ h => h) (Or.inl ⟨by rfl, ?_⟩) hHeld ?_
            rotate_left
            · intro w hSw; (try dsimp only at hSw); go_simp; (try with_reducible rfl)
            try simp only [Act.put, List.setIfInBounds_toArray, List.set_cons_zero, List.set_cons_succ]
            refine wpAnyH_take (i := 1) (oi := { dst := some 40, op := Op.slice 24 (Operand.tmp 39) (some (Operand.const (Value.int IntKind.i64 1))) none none, type := 24, pos := "l92_draw.go:111", after := #[{ on := 0, ground := Ground.data }], guard := none }) (v := ?_) rfl (by kernel_rfl) (by kernel_rfl) (by kernel_rfl) (fun _ _ _ h => h) (Or.inl ⟨by rfl, ?_⟩) hHeld ?_
            rotate_left
            · intro w hSw; (try dsimp only at hSw); go_simp; (try with_reducible rfl)
            try simp only [Act.put, List.setIfInBounds_toArray, List.set_cons_zero, List.set_cons_succ]
            refine wpAnyH_take (i := 3) (oi := { dst := some 42, op := Op.move (Operand.tmp 0), type := 96, pos := "l92_draw.go:111", after := #[], guard := none }) (v := ?_) rfl (by kernel_rfl) (by kernel_rfl) (by kernel_rfl) (fun _ _ _ h => h) (Or.inl ⟨by rfl, ?_⟩) hHeld ?_
            rotate_left
            · intro w hSw; (try dsimp only at hSw); go_simp; (try with_reducible rfl)
            try simp only [Act.put, List.setIfInBounds_toArray, List.set_cons_zero, List.set_cons_succ]
            refine wpAnyH_ready (rs := [2, 4]) (by kernel_rfl) (by simp) ?_
            refine AllReadyH.cons (o := { dst := some 41, op := Op.buildSlice 24 2 #[(0, Operand.const (Value.int IntKind.i64 4)), (1, Operand.const (Value.int IntKind.i64 0))], type := 24, pos := "l92_draw.go:111", after := #[], guard := none }) rfl (fun K hK => ?_) ?_
            · go_simp
              refine hK.out _ _ trivial (fun hHeld => ?_)
              clear hK K
              try simp only [Act.put, List.setIfInBounds_toArray, List.set_cons_zero, List.set_cons_succ]
              refine wpAnyH_ready (rs := [4]) (by kernel_rfl) (by simp) ?_
              refine AllReadyH.cons (o := { dst := some 43, op := Op.call { callee := Callee.value (Operand.func 85), args := #[Operand.tmp 42, Operand.const (Value.int IntKind.i64 2)], argTypes := #[96, 3] }, type := 3, pos := "l92_draw.go:111", after := #[{ on := 3, ground := Ground.data }], guard := none }) rfl (fun K hK => ?_) ?_
              · go_simp
                with_reducible refine HC2.out.mono ?_
                clear HC1 HC2
                rintro e u1 ⟨j0, rfl, j00, j01, h2, k2⟩
                obtain ⟨jj, rfl⟩ := Int.eq_ofNat_of_zero_le j00
                have hj2 : jj < 2 := by omega
                have ji0 : (0 : Int) ≤ (jj : Int) := by omega
                replace k2 := ((Kept.refl g (g + 1) (w4.alloc (.cells #[.int .i64 4, .int .i64 0] 3))).drew).trans k2
                have hcj := two_kept13 4 0 3 hj2 k2 (by omega)
                obtain ⟨zz, hzz⟩ : ∃ z, (if jj = 0 then (4 : Int) else 0) = z := ⟨_, rfl⟩
                rw [hzz] at hcj
                clear hzz
                have z1 : w4.heap.size ≤ u1.heap.size := by have := k2.size; rw [World.size_alloc] at this; omega
                replace hod := (hod.kept (kept_alloc g (g + 1) w4 _) (by omega) (.inl (by omega))).kept k2 (by rw [World.size_alloc]; omega) (.inl (by omega))
                replace htp := ((k2.block gt (by rw [World.size_alloc]; omega) (by omega)).trans (Below.heap_alloc _ _ gt hgt)).trans htp
                replace hkk := (hkk.trans (kept_alloc g (g + 1) w4 _)).trans k2
                have hrr := h2
                clear k2 h2 hHeld
                (try dsimp only)
                (try go_wp2_with fail)
                refine hK.out _ _ trivial (fun hHeld => ?_)
                clear hK K
                try simp only [Act.put, List.setIfInBounds_toArray, List.set_cons_zero, List.set_cons_succ]
                refine wpAnyH_take (i := 5) (oi := { dst := some 44, op := Op.indexAddr 24 (Operand.tmp 41) (Operand.tmp 43), type := 0, pos := "l92_draw.go:111", after := #[{ on := 2, ground := Ground.data }, { on := 4, ground := Ground.data }], guard := none }) (v := ?_) rfl (by kernel_rfl) (by kernel_rfl) (by kernel_rfl) (fun _ _ _ h => h) (Or.inl ⟨by rfl, ?_⟩) hHeld ?_
                rotate_left
                · intro w hSw; (try dsimp only at hSw); go_simp; (try with_reducible rfl)
                try simp only [Act.put, List.setIfInBounds_toArray, List.set_cons_zero, List.set_cons_succ]
                refine wpAnyH_ready (rs := [6]) (by kernel_rfl) (by simp) ?_
                refine AllReadyH.cons (o := { dst := some 45, op := Op.load 3 (Operand.tmp 44), type := 3, pos := "l92_draw.go:111", after := #[{ on := 5, ground := Ground.data }], guard := none }) rfl (fun K hK => ?_) ?_
                · go_simp
                  refine hK.out _ _ trivial (fun hHeld => ?_)
                  clear hK K
                  try simp only [Act.put, List.setIfInBounds_toArray, List.set_cons_zero, List.set_cons_succ]
                  refine wpAnyH_ready (rs := [7]) (by kernel_rfl) (by simp) ?_
                  refine AllReadyH.cons (o := { dst := some 46, op := Op.buildSlice 24 1 #[(0, Operand.tmp 45)], type := 24, pos := "l92_draw.go:111", after := #[{ on := 6, ground := Ground.data }], guard := none }) rfl (fun K hK => ?_) ?_
                  · go_simp
                    refine hK.out _ _ trivial (fun hHeld => ?_)
                    clear hK K
                    try simp only [Act.put, List.setIfInBounds_toArray, List.set_cons_zero, List.set_cons_succ]
                    refine wpAnyH_ready (rs := [8]) (by kernel_rfl) (by simp) ?_
                    refine AllReadyH.cons (o := { dst := some 47, op := Op.call { callee := Callee.builtin Builtin.append, args := #[Operand.tmp 40, Operand.tmp 46], argTypes := #[24, 24] }, type := 24, pos := "l92_draw.go:111", after := #[{ on := 1, ground := Ground.data }, { on := 7, ground := Ground.data }, { on := 4, ground := Ground.chain }], guard := none }) rfl (fun K hK => ?_) ?_
                    · refine step_tail rfl (.tmp 40) (.tmp 46) _ rfl Try.underlying24 info_int gt k3 ct3 cur _ _ zz rfl rfl (tp1 htp) (by have := HCS.out; omega) (by have := HCN.out; omega) (by omega) (one_at _ _ _) ?_
                      intro v6 w6 hgr
                      have G6 := tail_end1 hrr hkk hod hgw hz0 hge (by omega) hgr
                      clear hgr hHeld
                      refine hK.out _ _ trivial (fun hHeld => ?_)
                      clear hK K
                      try simp only [Act.put, List.setIfInBounds_toArray, List.set_cons_zero, List.set_cons_succ]
                      refine wpAnyH_ready (rs := [9]) (by kernel_rfl) (by simp) ?_
                      refine AllReadyH.cons (o := { dst := some 6, op := Op.assign (Operand.tmp 47), type := 24, pos := "l92_draw.go:111", after := #[{ on := 8, ground := Ground.data }, { on := 8, ground := Ground.chain }, { on := 0, ground := Ground.phase }, { on := 1, ground := Ground.phase }, { on := 2, ground := Ground.phase }, { on := 3, ground := Ground.phase }, { on := 4, ground := Ground.phase }, { on := 5, ground := Ground.phase }, { on := 6, ground := Ground.phase }, { on := 7, ground := Ground.phase }, { on := 8, ground := Ground.phase }], guard := none }) rfl (fun K hK => ?_) ?_
                      · go_simp
                        refine hK.out _ _ trivial (fun hHeld => ?_)
                        clear hK K
                        try simp only [Act.put, List.setIfInBounds_toArray, List.set_cons_zero, List.set_cons_succ]
                        refine wpAnyH_done (by kernel_rfl) ?_ _
                        go_wp2
                        go_ret2
                        exact ⟨_, _, _, _, rfl, G6.2.2.widen (Nat.le_refl _) G6.2.1.2, by omega, G6.1, G6.2.1.1⟩
                      exact AllReadyH.nil
                    exact AllReadyH.nil
                  exact AllReadyH.nil
                exact AllReadyH.nil
              exact AllReadyH.nil
            refine AllReadyH.cons (o := { dst := some 43, op := Op.call { callee := Callee.value (Operand.func 85), args := #[Operand.tmp 42, Operand.const (Value.int IntKind.i64 2)], argTypes := #[96, 3] }, type := 3, pos := "l92_draw.go:111", after := #[{ on := 3, ground := Ground.data }], guard := none }) rfl (fun K hK => ?_) ?_
            · go_simp
              with_reducible refine HC1.out.mono ?_
              clear HC1 HC2
              rintro e u1 ⟨j0, rfl, j00, j01, h2, k2⟩
              obtain ⟨jj, rfl⟩ := Int.eq_ofNat_of_zero_le j00
              have hj2 : jj < 2 := by omega
              have ji0 : (0 : Int) ≤ (jj : Int) := by omega
              replace k2 := ((Kept.refl g (g + 1) w4).drew).trans k2
              have hcj := two_at13 u1 4 0 3 hj2
              obtain ⟨zz, hzz⟩ : ∃ z, (if jj = 0 then (4 : Int) else 0) = z := ⟨_, rfl⟩
              rw [hzz] at hcj
              clear hzz
              have z1 : w4.heap.size ≤ u1.heap.size := k2.size
              replace hod := hod.kept k2 (by omega) (.inl (by omega))
              replace htp := (k2.block gt hgt (by omega)).trans htp
              replace hkk := hkk.trans k2
              have hrr := h2
              clear k2 h2 hHeld
              (try dsimp only)
              (try go_wp2_with fail)
              refine hK.out _ _ trivial (fun hHeld => ?_)
              clear hK K
              try simp only [Act.put, List.setIfInBounds_toArray, List.set_cons_zero, List.set_cons_succ]
              refine wpAnyH_ready (rs := [2]) (by kernel_rfl) (by simp) ?_
              refine AllReadyH.cons (o := { dst := some 41, op := Op.buildSlice 24 2 #[(0, Operand.const (Value.int IntKind.i64 4)), (1, Operand.const (Value.int IntKind.i64 0))], type := 24, pos := "l92_draw.go:111", after := #[], guard := none }) rfl (fun K hK => ?_) ?_
              · go_simp
                refine hK.out _ _ trivial (fun hHeld => ?_)
                clear hK K
                try simp only [Act.put, List.setIfInBounds_toArray, List.set_cons_zero, List.set_cons_succ]
                refine wpAnyH_take (i := 5) (oi := { dst := some 44, op := Op.indexAddr 24 (Operand.tmp 41) (Operand.tmp 43), type := 0, pos := "l92_draw.go:111", after := #[{ on := 2, ground := Ground.data }, { on := 4, ground := Ground.data }], guard := none }) (v := ?_) rfl (by kernel_rfl) (by kernel_rfl) (by kernel_rfl) (fun _ _ _ h => h) (Or.inl ⟨by rfl, ?_⟩) hHeld ?_
                rotate_left
                · intro w hSw; (try dsimp only at hSw); go_simp; (try with_reducible rfl)
                try simp only [Act.put, List.setIfInBounds_toArray, List.set_cons_zero, List.set_cons_succ]
                refine wpAnyH_ready (rs := [6]) (by kernel_rfl) (by simp) ?_
                refine AllReadyH.cons (o := { dst := some 45, op := Op.load 3 (Operand.tmp 44), type := 3, pos := "l92_draw.go:111", after := #[{ on := 5, ground := Ground.data }], guard := none }) rfl (fun K hK => ?_) ?_
                · go_simp
                  refine hK.out _ _ trivial (fun hHeld => ?_)
                  clear hK K
                  try simp only [Act.put, List.setIfInBounds_toArray, List.set_cons_zero, List.set_cons_succ]
                  refine wpAnyH_ready (rs := [7]) (by kernel_rfl) (by simp) ?_
                  refine AllReadyH.cons (o := { dst := some 46, op := Op.buildSlice 24 1 #[(0, Operand.tmp 45)], type := 24, pos := "l92_draw.go:111", after := #[{ on := 6, ground := Ground.data }], guard := none }) rfl (fun K hK => ?_) ?_
                  · go_simp
                    refine hK.out _ _ trivial (fun hHeld => ?_)
                    clear hK K
                    try simp only [Act.put, List.setIfInBounds_toArray, List.set_cons_zero, List.set_cons_succ]
                    refine wpAnyH_ready (rs := [8]) (by kernel_rfl) (by simp) ?_
                    refine AllReadyH.cons (o := { dst := some 47, op := Op.call { callee := Callee.builtin Builtin.append, args := #[Operand.tmp 40, Operand.tmp 46], argTypes := #[24, 24] }, type := 24, pos := "l92_draw.go:111", after := #[{ on := 1, ground := Ground.data }, { on := 7, ground := Ground.data }, { on := 4, ground := Ground.chain }], guard := none }) rfl (fun K hK => ?_) ?_
                    · refine step_tail rfl (.tmp 40) (.tmp 46) _ rfl Try.underlying24 info_int gt k3 ct3 cur _ _ zz rfl rfl (tp2 htp) (by have := HCS.out; omega) (by have := HCN.out; omega) (by omega) (one_at2 _ _ _ _) ?_
                      intro v6 w6 hgr
                      have G6 := tail_end2 hrr hkk hod hgw hz0 hge (by omega) hgr
                      clear hgr hHeld
                      refine hK.out _ _ trivial (fun hHeld => ?_)
                      clear hK K
                      try simp only [Act.put, List.setIfInBounds_toArray, List.set_cons_zero, List.set_cons_succ]
                      refine wpAnyH_ready (rs := [9]) (by kernel_rfl) (by simp) ?_
                      refine AllReadyH.cons (o := { dst := some 6, op := Op.assign (Operand.tmp 47), type := 24, pos := "l92_draw.go:111", after := #[{ on := 8, ground := Ground.data }, { on := 8, ground := Ground.chain }, { on := 0, ground := Ground.phase }, { on := 1, ground := Ground.phase }, { on := 2, ground := Ground.phase }, { on := 3, ground := Ground.phase }, { on := 4, ground := Ground.phase }, { on := 5, ground := Ground.phase }, { on := 6, ground := Ground.phase }, { on := 7, ground := Ground.phase }, { on := 8, ground := Ground.phase }], guard := none }) rfl (fun K hK => ?_) ?_
                      · go_simp
                        refine hK.out _ _ trivial (fun hHeld => ?_)
                        clear hK K
                        try simp only [Act.put, List.setIfInBounds_toArray, List.set_cons_zero, List.set_cons_succ]
                        refine wpAnyH_done (by kernel_rfl) ?_ _
                        go_wp2
                        go_ret2
                        exact ⟨_, _, _, _, rfl, G6.2.2.widen (Nat.le_refl _) G6.2.1.2, by omega, G6.1, G6.2.1.1⟩
                      exact AllReadyH.nil
                    exact AllReadyH.nil
                  exact AllReadyH.nil
                exact AllReadyH.nil
              exact AllReadyH.nil
            exact AllReadyH.nil
          · have hb : (y == 0) = false := by rw [beq_eq_false_iff_ne]; exact hy
            clear hy
            go_wp2
            go_ret2
            exact ⟨_, _, _, _, rfl, HL4.out.widen (Nat.le_refl _) (by omega), by omega, HR4.out, HK4.out⟩

set_option maxHeartbeats 1000000 in
theorem d_l92List (g hi p : Nat) (A : Option Addr) (n c : Nat) (bs : List Int) (w : World) (h : Rdr w g hi p A n c bs) (hp : p < 800000) :
    Calls Try.prog 68 #[.pointer (some ⟨g, 0, none⟩)] w fun e w' => ∃ vl d, e = .returned vl ∧ OwAccessS w' w.heap.size w'.heap.size vl d ∧ Kept g (g + 1) w w' := by
  have H := Lib.hid h
  clear h
  go_enter Try.func68, Try.ntmps68
  go_wp2_with fail
  refine (d_l92Accesses _ _ _ _ _ _ _ _ H.out hp).mono ?_
  rintro e w1 ⟨vl, vt, d, q, rfl, ho, _, _, k1⟩
  have HO := Lib.hid ho
  have HK := Lib.hid k1
  clear ho k1
  go_wp2
  go_ret
  exact ⟨_, _, rfl, HO.out, HK.out⟩

set_option maxHeartbeats 1000000 in
theorem d_DrawHiddenSlots (A : Option Addr) (n c : Nat) (bs : List Int) (w : World) (h : Rd w w.heap.size 1 A n (cU bs)) (hb : Byt bs) (hn : n ≤ 1048576) (hc : n ≤ c) :
    Calls Try.prog 37 #[.slice A n c] w fun e w' => ∃ vl d, e = .returned vl ∧ OwAccessS w' w.heap.size w'.heap.size vl d ∧ Below w.heap.size w w' := by
  have H := Lib.hid h
  clear h
  go_enter Try.func37, Try.ntmps37
  go_wp2_with fail
  refine (d_l6Open _ _ _ _ _ H.out hb hn hc).mono ?_
  rintro e w1 ⟨rfl, ⟨A', n', c', bs', h1⟩, hb1⟩
  have H1 := Lib.hid h1
  have B1 := Lib.hid hb1
  clear h1 hb1
  go_wp2_with fail
  refine (d_l92List _ _ _ _ _ _ _ _ H1.out (by omega)).mono ?_
  rintro e w2 ⟨vl, d, rfl, ho, k2⟩
  have B2 : Hid (Below w.heap.size w w2) := Lib.hid (B1.out.trans (k2.to_below B1.out.size))
  have HO := Lib.hid (ho.widen B1.out.size (Nat.le_refl _))
  clear ho k2
  go_wp2
  go_ret
  exact ⟨_, _, rfl, HO.out, B2.out⟩
end Go.Proofs.Ytlajhgnlllelfaa
