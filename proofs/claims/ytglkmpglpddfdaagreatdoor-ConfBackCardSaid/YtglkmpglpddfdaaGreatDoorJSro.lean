import Derived.Test.YtglkmpglpddfdaaGreatDoorJ39
/- Of a claim's texts, joined: Sro. No statement but in the last. -/
namespace Go.Proofs.YtglkmpglpddfdaaGreatDoor
open Go.RowKit Go.Sort
set_option linter.unusedVariables false

theorem sg_sl {w : World} {b : Nat} {e : TypeId} {s n : Nat} {v : Value} {xs : List Value} (h : w.ownsRow b e s v n xs) : ∃ A c, v = .slice A n c := by
  rcases h.2 with ⟨rfl, rfl⟩ | ⟨g, cap, cur, rfl, _⟩
  · exact ⟨_, _, rfl⟩
  · exact ⟨_, _, rfl⟩
theorem SI.span {w0 W : World} {base blk n cap : Nat} {d : Array G} (h : SI w0 base blk n cap d W) {k : Nat} (hk : k ≤ n) : ∀ j, k * 3 + j < n * 3 → (W.cell? ⟨blk, k * 3 + j, none⟩).isSome = true ∧ W.frozen? ⟨blk, k * 3 + j, none⟩ = false := fun j hj => by
  obtain ⟨cur, hg, hs, _⟩ := h.has
  refine ⟨?_, hg.free _⟩
  rw [hg.cell]
  have : k * 3 + j < cur.size := by omega
  simp [this]
theorem SI.there {w0 W : World} {base blk n cap : Nat} {d : Array G} (h : SI w0 base blk n cap d W) {k : Nat} (hk : k < n) : W.there blk (k * 3) 3 := fun j hj => h.span (k := k) (by omega) j (by omega)
theorem sgL_store {P : Program} {ops : Array Oper} {rest : List Oper} {o : Oper} {a : Act} {w : World} {Q : Exit → Act → World → Prop} (hgd : o.guard = none) (t : TypeId) (x y : Operand) (ho : o.op = .store t x y) (p u : Value) (hx : a.eval x = p) (hy : a.eval y = u) (w' : World)
    (hrun : (Instr.storeAt t p u).run P w = .ok () w') (h : wpList P ops Q rest (a.put o.dst undef) w') : wpList P ops Q (o :: rest) a w :=
  wpList_plain hgd fun K hK => by
    unfold Oper.wp execOp
    simp only [ho, hx, hy, Sem.run_bind, hrun, Result.andThen_ok, Sem.run_pure]
    exact hK _ _ h
theorem arr_at {l : List G} {k : Nat} {x : G} (h : l[k]? = some x) : l.toArray[k]! = x := by
  simp [h]
set_option maxRecDepth 100000 in
set_option maxHeartbeats 8000000 in
theorem comp_any (base : Nat) (v : Value) (l : List G) (w : World) (ho : w.ownsRow base 45 3 v l.length (cellsG l)) (hl : l.length ≤ 1000000) :
    Calls Tryz.prog 22 #[v] w fun e w' => ∃ v', e = .returned v' ∧ w.grownBy w' v.ownBlock ∧ w'.ownsRow base 45 3 v' (compG l).length (cellsG (compG l)) := by
  by_cases h2 : l.length < 2
  · have hc : compG l = l := by
      match l, h2 with
      | [], _ => rfl
      | [x], _ => rfl
    obtain ⟨A, c, rfl⟩ := sg_sl ho
    rw [hc]
    have HO := Lib.hid ho
    clear ho hc
    obtain ⟨n, hn⟩ : ∃ n, l.length = n := ⟨_, rfl⟩
    rw [hn] at h2 HO ⊢
    clear hn
    have e0 : (n : Int) < 2 := by omega
    go_enter Tryz.func22, Tryz.ntmps22
    go_wp2
    go_ret
    exact ⟨_, rfl, gb_refl _ _, HO.out⟩
  · obtain ⟨n, hnl⟩ : ∃ n, l.length = n := ⟨_, rfl⟩
    have hnl2 := hnl
    rw [hnl] at h2 hl ho
    have ho2 := ho.2
    rcases ho2 with ⟨_, hn0⟩ | ⟨blk, cap, cur, hv, hb, hg, hnc, hcm, hcs, hcur⟩
    · omega
    · subst hv
      have HI := Lib.hid (show SI w base blk n cap l.toArray w from ⟨ho, gb_refl _ _⟩)
      have HNL := Lib.hid hnl
      have HC1 := Lib.hid (comp_first (l := l) (by omega))
      have hcap : cap ≤ 9223372036854775807 := by simpa [maxLen] using hcm
      have hmx : Tryz.prog.follows .mixedOrders = true := by kernel_rfl
      have e0 : ¬ (n : Int) < 2 := by omega
      clear ho hg hcs hcur hnl hnl2
      go_enter Tryz.func22, Tryz.ntmps22
      go_wp2
      go_loopw [3] (fun vk wr => ∃ k : Nat, vk = .int .i64 (k : Int) ∧ 1 ≤ k ∧ k ≤ n ∧ SI w base blk n cap l.toArray wr ∧ compG (l.take k) = l.take k) (fun vk _ => n - (intOf vk).toNat)
      case atStart => exact ⟨1, rfl, by omega, by omega, HI.out, HC1.out⟩
      case round =>
        obtain ⟨k, rfl, hk1, hkn, h1, h4⟩ := hrel
        have HI2 : Hid (SI w base blk n cap l.toArray wr.drew) := Lib.hid (h1.below (Below.refl _ wr).drew)
        have HI1 := Lib.hid h1
        have HK := Lib.hid h4
        clear h1 h4
        by_cases hlt : k < n
        · obtain ⟨j, hj⟩ : ∃ j, k = j + 1 := ⟨k - 1, by omega⟩
          obtain ⟨x, hx⟩ : ∃ x, l[k]? = some x := ⟨_, List.getElem?_eq_getElem (by rw [HNL.out]; exact hlt)⟩
          obtain ⟨y, hy⟩ : ∃ y, l[j]? = some y := ⟨_, List.getElem?_eq_getElem (by rw [HNL.out]; omega)⟩
          obtain ⟨a1, a2, a3⟩ := HI1.out.at_ hlt
          obtain ⟨b1, b2, b3⟩ := HI1.out.at_ (show j < n by omega)
          rw [arr_at hx] at a1 a2 a3
          rw [arr_at hy] at b1 b2 b3
          have HM : Hid (compG (l.take (k + 1)) = if y = x then compG (l.take k) else compG (l.take k) ++ [x]) := Lib.hid (by
            subst hj
            exact comp_more hx hy)
          have HX := Lib.hid hx
          have hj1 : (k : Int) - 1 = (j : Int) := by omega
          have i1 : (k : Int) < (n : Int) := by omega
          have i2 : (0 : Int) ≤ (k : Int) := by omega
          have i3 : (j : Int) < (n : Int) := by omega
          have i4 : (0 : Int) ≤ (j : Int) := by omega
          have hwj : IntKind.i64.wrap (j : Int) = (j : Int) := (IntWalk.i64_left _).trans (IntWalk.wrap64_in _ (by omega))
          have HJ := Lib.hid hj
          clear hx hy hj
          by_cases hxy : x = y
          · subst hxy
            have HE : Hid (compG (l.take (k + 1)) = l.take k) := Lib.hid (by rw [HM.out, if_pos rfl, HK.out])
            obtain ⟨xa, xf, xt⟩ := x
            dsimp only at a1 a2 a3 b1 b2 b3
            obtain ⟨m, hm⟩ : ∃ m, n - k = m := ⟨_, rfl⟩
            obtain ⟨c2, hc2⟩ : ∃ c2, cap - k = c2 := ⟨_, rfl⟩
            go_wp2
            have hS : (fun w' : World => w'.cell? ⟨blk, k * 3, none⟩ = some (.int .i64 xa) ∧ w'.cell? ⟨blk, k * 3 + 1, none⟩ = some (.int .i64 xf) ∧ w'.cell? ⟨blk, k * 3 + 2, none⟩ = some (.int .i64 xt) ∧ w'.cell? ⟨blk, j * 3, none⟩ = some (.int .i64 xa) ∧ w'.cell? ⟨blk, j * 3 + 1, none⟩ = some (.int .i64 xf) ∧ w'.cell? ⟨blk, j * 3 + 2, none⟩ = some (.int .i64 xt)) wr.drew := ⟨a1, a2, a3, b1, b2, b3⟩
            rename_i K hK
            refine wp_held (fun w' : World => w'.cell? ⟨blk, k * 3, none⟩ = some (.int .i64 xa) ∧ w'.cell? ⟨blk, k * 3 + 1, none⟩ = some (.int .i64 xf) ∧ w'.cell? ⟨blk, k * 3 + 2, none⟩ = some (.int .i64 xt) ∧ w'.cell? ⟨blk, j * 3, none⟩ = some (.int .i64 xa) ∧ w'.cell? ⟨blk, j * 3 + 1, none⟩ = some (.int .i64 xf) ∧ w'.cell? ⟨blk, j * 3 + 2, none⟩ = some (.int .i64 xt)) K hmx ?_ (fun _ _ h => h)
            refine wpAnyH_take (i := 0) (v := .slice (some ⟨blk, 0, none⟩) n cap) rfl (by kernel_rfl) (by kernel_rfl) (by kernel_rfl) (fun _ _ _ h => h) (Or.inl ⟨by rfl, ?_⟩) hS ?_
            · rintro w6 ⟨s1, s2, s3, s4, s5, s6⟩
              go_simp
            simp only [Act.put, List.setIfInBounds_toArray, List.set_cons_zero, List.set_cons_succ, List.getElem_toArray, List.getElem_cons_zero]
            refine wpAnyH_take (i := 1) (v := .int .i64 (k : Int)) rfl (by kernel_rfl) (by kernel_rfl) (by kernel_rfl) (fun _ _ _ h => h) (Or.inl ⟨by rfl, ?_⟩) hS ?_
            · rintro w6 ⟨s1, s2, s3, s4, s5, s6⟩
              go_simp
            simp only [Act.put, List.setIfInBounds_toArray, List.set_cons_zero, List.set_cons_succ, List.getElem_toArray, List.getElem_cons_zero, List.getElem_cons_succ]
            refine wpAnyH_take (i := 2) (v := .pointer (some ⟨blk, k * 3, none⟩)) rfl (by kernel_rfl) (by kernel_rfl) (by kernel_rfl) (fun _ _ _ h => h) (Or.inl ⟨by rfl, ?_⟩) hS ?_
            · rintro w6 ⟨s1, s2, s3, s4, s5, s6⟩
              go_simp
            simp only [Act.put, List.setIfInBounds_toArray, List.set_cons_zero, List.set_cons_succ, List.getElem_toArray, List.getElem_cons_zero, List.getElem_cons_succ]
            refine wpAnyH_take (i := 3) (v := .agg #[.int .i64 xa, .int .i64 xf, .int .i64 xt]) rfl (by kernel_rfl) (by kernel_rfl) (by kernel_rfl) (fun _ _ _ h => h) (Or.inl ⟨by rfl, ?_⟩) hS ?_
            · rintro w6 ⟨s1, s2, s3, s4, s5, s6⟩
              go_simp
            simp only [Act.put, List.setIfInBounds_toArray, List.set_cons_zero, List.set_cons_succ, List.getElem_toArray, List.getElem_cons_zero, List.getElem_cons_succ]
            refine wpAnyH_take (i := 4) (v := .slice (some ⟨blk, 0, none⟩) n cap) rfl (by kernel_rfl) (by kernel_rfl) (by kernel_rfl) (fun _ _ _ h => h) (Or.inl ⟨by rfl, ?_⟩) hS ?_
            · rintro w6 ⟨s1, s2, s3, s4, s5, s6⟩
              go_simp
            simp only [Act.put, List.setIfInBounds_toArray, List.set_cons_zero, List.set_cons_succ, List.getElem_toArray, List.getElem_cons_zero, List.getElem_cons_succ]
            refine wpAnyH_take (i := 5) (v := .int .i64 (k : Int)) rfl (by kernel_rfl) (by kernel_rfl) (by kernel_rfl) (fun _ _ _ h => h) (Or.inl ⟨by rfl, ?_⟩) hS ?_
            · rintro w6 ⟨s1, s2, s3, s4, s5, s6⟩
              go_simp
            simp only [Act.put, List.setIfInBounds_toArray, List.set_cons_zero, List.set_cons_succ, List.getElem_toArray, List.getElem_cons_zero, List.getElem_cons_succ]
            refine wpAnyH_take (i := 6) (v := .int .i64 (j : Int)) rfl (by kernel_rfl) (by kernel_rfl) (by kernel_rfl) (fun _ _ _ h => h) (Or.inl ⟨by rfl, ?_⟩) hS ?_
            · rintro w6 ⟨s1, s2, s3, s4, s5, s6⟩
              go_simp
            simp only [Act.put, List.setIfInBounds_toArray, List.set_cons_zero, List.set_cons_succ, List.getElem_toArray, List.getElem_cons_zero, List.getElem_cons_succ]
            refine wpAnyH_take (i := 7) (v := .pointer (some ⟨blk, j * 3, none⟩)) rfl (by kernel_rfl) (by kernel_rfl) (by kernel_rfl) (fun _ _ _ h => h) (Or.inl ⟨by rfl, ?_⟩) hS ?_
            · rintro w6 ⟨s1, s2, s3, s4, s5, s6⟩
              go_simp
            simp only [Act.put, List.setIfInBounds_toArray, List.set_cons_zero, List.set_cons_succ, List.getElem_toArray, List.getElem_cons_zero, List.getElem_cons_succ]
            refine wpAnyH_take (i := 8) (v := .agg #[.int .i64 xa, .int .i64 xf, .int .i64 xt]) rfl (by kernel_rfl) (by kernel_rfl) (by kernel_rfl) (fun _ _ _ h => h) (Or.inl ⟨by rfl, ?_⟩) hS ?_
            · rintro w6 ⟨s1, s2, s3, s4, s5, s6⟩
              go_simp
            simp only [Act.put, List.setIfInBounds_toArray, List.set_cons_zero, List.set_cons_succ, List.getElem_toArray, List.getElem_cons_zero, List.getElem_cons_succ]
            refine wpAnyH_take (i := 9) (v := .bool true) rfl (by kernel_rfl) (by kernel_rfl) (by kernel_rfl) (fun _ _ _ h => h) (Or.inl ⟨by rfl, ?_⟩) hS ?_
            · rintro w6 ⟨s1, s2, s3, s4, s5, s6⟩
              go_simp
            simp only [Act.put, List.setIfInBounds_toArray, List.set_cons_zero, List.set_cons_succ, List.getElem_toArray, List.getElem_cons_zero, List.getElem_cons_succ]
            refine wpAnyH_done (by kernel_rfl) ?_ _
            refine hK _ _ ?_
            go_wp2
            go_loopw [3, 5] (fun vk vq wr => ∃ (kk q : Nat) (d : Array G), vk = .int .i64 (kk : Int) ∧ vq = .int .i64 (q : Int) ∧ 1 ≤ q ∧ q ≤ m ∧ 1 ≤ kk ∧ kk + 1 ≤ k + q ∧ SI w base blk n cap d wr ∧ (∀ i, k + q ≤ i + 1 → i < n → d[i]! = l.toArray[i]!) ∧ d.toList.take kk = compG (l.take (k + q))) (fun _ vq _ => m - (intOf vq).toNat)
            case atStart => exact ⟨k, 1, l.toArray, rfl, rfl, Nat.le_refl _, by omega, hk1, by omega, HI2.out, fun _ _ _ => rfl, by simpa using HE.out.symm⟩
            case round =>
              obtain ⟨kk, q, d, rfl, rfl, hq1, hqm, hkk, hkq, h1, h3, h4⟩ := hrel
              have HD := Lib.hid h1
              have HD2 : Hid (SI w base blk n cap d wr.drew) := Lib.hid (h1.below (Below.refl _ wr).drew)
              have HO := Lib.hid h3
              have HC := Lib.hid h4
              clear h1 h3 h4 a1 a2 a3 b1 b2 b3
              by_cases hlq : q < m
              · obtain ⟨j2, hj2⟩ : ∃ j2, q = j2 + 1 := ⟨q - 1, by omega⟩
                obtain ⟨x, hx⟩ : ∃ x, l[k + q]? = some x := ⟨_, List.getElem?_eq_getElem (by rw [HNL.out]; omega)⟩
                obtain ⟨y, hy⟩ : ∃ y, l[k + j2]? = some y := ⟨_, List.getElem?_eq_getElem (by rw [HNL.out]; omega)⟩
                obtain ⟨a1, a2, a3⟩ := HD.out.at_ (show k + q < n by omega)
                obtain ⟨b1, b2, b3⟩ := HD.out.at_ (show k + j2 < n by omega)
                rw [HO.out (k + q) (by omega) (by omega), arr_at hx, Nat.add_mul] at a1 a2 a3
                rw [HO.out (k + j2) (by omega) (by omega), arr_at hy, Nat.add_mul] at b1 b2 b3
                have HM2 : Hid (compG (l.take (k + (q + 1))) = if y = x then compG (l.take (k + q)) else compG (l.take (k + q)) ++ [x]) := Lib.hid (by
                  subst hj2
                  exact comp_more (m := k + j2) hx hy)
                have g1 : (q : Int) < (m : Int) := by omega
                have g2 : (0 : Int) ≤ (q : Int) := by omega
                have g3 : (q : Int) - 1 = (j2 : Int) := by omega
                have g4 : (j2 : Int) < (m : Int) := by omega
                have g5 : (0 : Int) ≤ (j2 : Int) := by omega
                have g6 : (kk : Int) < (n : Int) := by omega
                have g7 : (0 : Int) ≤ (kk : Int) := by omega
                have gwj : IntKind.i64.wrap (j2 : Int) = (j2 : Int) := (IntWalk.i64_left _).trans (IntWalk.wrap64_in _ (by omega))
                have HJ2 := Lib.hid hj2
                clear hx hy hj2
                by_cases hxy : x = y
                · subst hxy
                  have HE2 : Hid (compG (l.take (k + (q + 1))) = compG (l.take (k + q))) := Lib.hid (by rw [HM2.out, if_pos rfl])
                  obtain ⟨za, zf, zt⟩ := x
                  dsimp only at a1 a2 a3 b1 b2 b3
                  go_wp2
                  have hS : (fun w' : World => w'.cell? ⟨blk, k * 3 + q * 3, none⟩ = some (.int .i64 za) ∧ w'.cell? ⟨blk, k * 3 + q * 3 + 1, none⟩ = some (.int .i64 zf) ∧ w'.cell? ⟨blk, k * 3 + q * 3 + 2, none⟩ = some (.int .i64 zt) ∧ w'.cell? ⟨blk, k * 3 + j2 * 3, none⟩ = some (.int .i64 za) ∧ w'.cell? ⟨blk, k * 3 + j2 * 3 + 1, none⟩ = some (.int .i64 zf) ∧ w'.cell? ⟨blk, k * 3 + j2 * 3 + 2, none⟩ = some (.int .i64 zt)) wr.drew := ⟨a1, a2, a3, b1, b2, b3⟩
                  rename_i K hK
                  refine wp_held (fun w' : World => w'.cell? ⟨blk, k * 3 + q * 3, none⟩ = some (.int .i64 za) ∧ w'.cell? ⟨blk, k * 3 + q * 3 + 1, none⟩ = some (.int .i64 zf) ∧ w'.cell? ⟨blk, k * 3 + q * 3 + 2, none⟩ = some (.int .i64 zt) ∧ w'.cell? ⟨blk, k * 3 + j2 * 3, none⟩ = some (.int .i64 za) ∧ w'.cell? ⟨blk, k * 3 + j2 * 3 + 1, none⟩ = some (.int .i64 zf) ∧ w'.cell? ⟨blk, k * 3 + j2 * 3 + 2, none⟩ = some (.int .i64 zt)) K hmx ?_ (fun _ _ h => h)
                  refine wpAnyH_take (i := 0) (v := .slice (some ⟨blk, k * 3, none⟩) m c2) rfl (by kernel_rfl) (by kernel_rfl) (by kernel_rfl) (fun _ _ _ h => h) (Or.inl ⟨by rfl, ?_⟩) hS ?_
                  · rintro w6 ⟨s1, s2, s3, s4, s5, s6⟩
                    go_simp
                  simp only [Act.put, List.setIfInBounds_toArray, List.set_cons_zero, List.set_cons_succ, List.getElem_toArray, List.getElem_cons_zero]
                  refine wpAnyH_take (i := 1) (v := .int .i64 (q : Int)) rfl (by kernel_rfl) (by kernel_rfl) (by kernel_rfl) (fun _ _ _ h => h) (Or.inl ⟨by rfl, ?_⟩) hS ?_
                  · rintro w6 ⟨s1, s2, s3, s4, s5, s6⟩
                    go_simp
                  simp only [Act.put, List.setIfInBounds_toArray, List.set_cons_zero, List.set_cons_succ, List.getElem_toArray, List.getElem_cons_zero, List.getElem_cons_succ]
                  refine wpAnyH_take (i := 2) (v := .pointer (some ⟨blk, k * 3 + q * 3, none⟩)) rfl (by kernel_rfl) (by kernel_rfl) (by kernel_rfl) (fun _ _ _ h => h) (Or.inl ⟨by rfl, ?_⟩) hS ?_
                  · rintro w6 ⟨s1, s2, s3, s4, s5, s6⟩
                    go_simp
                  simp only [Act.put, List.setIfInBounds_toArray, List.set_cons_zero, List.set_cons_succ, List.getElem_toArray, List.getElem_cons_zero, List.getElem_cons_succ]
                  refine wpAnyH_take (i := 3) (v := .agg #[.int .i64 za, .int .i64 zf, .int .i64 zt]) rfl (by kernel_rfl) (by kernel_rfl) (by kernel_rfl) (fun _ _ _ h => h) (Or.inl ⟨by rfl, ?_⟩) hS ?_
                  · rintro w6 ⟨s1, s2, s3, s4, s5, s6⟩
                    go_simp
                  simp only [Act.put, List.setIfInBounds_toArray, List.set_cons_zero, List.set_cons_succ, List.getElem_toArray, List.getElem_cons_zero, List.getElem_cons_succ]
                  refine wpAnyH_take (i := 4) (v := .slice (some ⟨blk, k * 3, none⟩) m c2) rfl (by kernel_rfl) (by kernel_rfl) (by kernel_rfl) (fun _ _ _ h => h) (Or.inl ⟨by rfl, ?_⟩) hS ?_
                  · rintro w6 ⟨s1, s2, s3, s4, s5, s6⟩
                    go_simp
                  simp only [Act.put, List.setIfInBounds_toArray, List.set_cons_zero, List.set_cons_succ, List.getElem_toArray, List.getElem_cons_zero, List.getElem_cons_succ]
                  refine wpAnyH_take (i := 5) (v := .int .i64 (q : Int)) rfl (by kernel_rfl) (by kernel_rfl) (by kernel_rfl) (fun _ _ _ h => h) (Or.inl ⟨by rfl, ?_⟩) hS ?_
                  · rintro w6 ⟨s1, s2, s3, s4, s5, s6⟩
                    go_simp
                  simp only [Act.put, List.setIfInBounds_toArray, List.set_cons_zero, List.set_cons_succ, List.getElem_toArray, List.getElem_cons_zero, List.getElem_cons_succ]
                  refine wpAnyH_take (i := 6) (v := .int .i64 (j2 : Int)) rfl (by kernel_rfl) (by kernel_rfl) (by kernel_rfl) (fun _ _ _ h => h) (Or.inl ⟨by rfl, ?_⟩) hS ?_
                  · rintro w6 ⟨s1, s2, s3, s4, s5, s6⟩
                    go_simp
                  simp only [Act.put, List.setIfInBounds_toArray, List.set_cons_zero, List.set_cons_succ, List.getElem_toArray, List.getElem_cons_zero, List.getElem_cons_succ]
                  refine wpAnyH_take (i := 7) (v := .pointer (some ⟨blk, k * 3 + j2 * 3, none⟩)) rfl (by kernel_rfl) (by kernel_rfl) (by kernel_rfl) (fun _ _ _ h => h) (Or.inl ⟨by rfl, ?_⟩) hS ?_
                  · rintro w6 ⟨s1, s2, s3, s4, s5, s6⟩
                    go_simp
                  simp only [Act.put, List.setIfInBounds_toArray, List.set_cons_zero, List.set_cons_succ, List.getElem_toArray, List.getElem_cons_zero, List.getElem_cons_succ]
                  refine wpAnyH_take (i := 8) (v := .agg #[.int .i64 za, .int .i64 zf, .int .i64 zt]) rfl (by kernel_rfl) (by kernel_rfl) (by kernel_rfl) (fun _ _ _ h => h) (Or.inl ⟨by rfl, ?_⟩) hS ?_
                  · rintro w6 ⟨s1, s2, s3, s4, s5, s6⟩
                    go_simp
                  simp only [Act.put, List.setIfInBounds_toArray, List.set_cons_zero, List.set_cons_succ, List.getElem_toArray, List.getElem_cons_zero, List.getElem_cons_succ]
                  refine wpAnyH_take (i := 9) (v := .bool false) rfl (by kernel_rfl) (by kernel_rfl) (by kernel_rfl) (fun _ _ _ h => h) (Or.inl ⟨by rfl, ?_⟩) hS ?_
                  · rintro w6 ⟨s1, s2, s3, s4, s5, s6⟩
                    go_simp
                  simp only [Act.put, List.setIfInBounds_toArray, List.set_cons_zero, List.set_cons_succ, List.getElem_toArray, List.getElem_cons_zero, List.getElem_cons_succ]
                  refine wpAnyH_done (by kernel_rfl) ?_ _
                  refine hK _ _ ?_
                  go_wp2
                  go_roundw
                  case rel => exact ⟨kk, q + 1, d, rfl, by go_num, by omega, by omega, by omega, by omega, HD2.out, fun i h1 h2 => HO.out i (by omega) h2, by rw [HE2.out]; exact HC.out⟩
                  case measure => simp [intOf]; omega
                · have HN2 : Hid ((d.setIfInBounds kk x).toList.take (kk + 1) = compG (l.take (k + (q + 1)))) := Lib.hid (by
                    rw [HM2.out, if_neg (fun e => hxy e.symm), ← HC.out, Array.toList_setIfInBounds]
                    have hdz := HD.out.size
                    rw [List.take_add_one, List.take_set_of_le (Nat.le_refl _), List.getElem?_set_self (by rw [Array.length_toList]; omega)]
                    rfl)
                  have HO2 : Hid (∀ i, k + (q + 1) ≤ i + 1 → i < n → (d.setIfInBounds kk x)[i]! = l.toArray[i]!) := Lib.hid (fun i h1 h2 => by
                    rw [← HO.out i (by omega) h2]
                    have hdz := HD.out.size
                    have he : (d.setIfInBounds kk x)[i]? = d[i]? := by rw [Array.getElem?_setIfInBounds, if_neg (by omega)]
                    simp only [getElem!_def, he])
                  obtain ⟨za, zf, zt⟩ := x
                  obtain ⟨wa, wf, wt⟩ := y
                  dsimp only at a1 a2 a3 b1 b2 b3
                  by_cases h1 : za = wa
                  · subst h1
                    by_cases h2 : zf = wf
                    · subst h2
                      have h3 : ¬ zt = wt := fun e => hxy (by rw [e])
                      have e3 : (zt == wt) = false := by simpa using h3
                      have HST := Lib.hid (run_storeAt_mid (P := Tryz.prog) wr.drew blk (kk * 3) 45 #[.int .i64 za, .int .i64 zf, .int .i64 zt] (HD2.out.there (by omega)) (by kernel_rfl) (by simp [Value.oneCell']))
                      have HPT : Hid (SI w base blk n cap (d.setIfInBounds kk ⟨za, zf, zt⟩) (wr.drew.setCells blk (kk * 3) [.int .i64 za, .int .i64 zf, .int .i64 zt])) := Lib.hid (HD2.out.put kk (by omega) _).1
                      go_wp2
                      have hS : (fun w' : World => w'.cell? ⟨blk, k * 3 + q * 3, none⟩ = some (.int .i64 za) ∧ w'.cell? ⟨blk, k * 3 + q * 3 + 1, none⟩ = some (.int .i64 zf) ∧ w'.cell? ⟨blk, k * 3 + q * 3 + 2, none⟩ = some (.int .i64 zt) ∧ w'.cell? ⟨blk, k * 3 + j2 * 3, none⟩ = some (.int .i64 za) ∧ w'.cell? ⟨blk, k * 3 + j2 * 3 + 1, none⟩ = some (.int .i64 zf) ∧ w'.cell? ⟨blk, k * 3 + j2 * 3 + 2, none⟩ = some (.int .i64 wt)) wr.drew := ⟨a1, a2, a3, b1, b2, b3⟩
                      rename_i K hK
                      refine wp_held (fun w' : World => w'.cell? ⟨blk, k * 3 + q * 3, none⟩ = some (.int .i64 za) ∧ w'.cell? ⟨blk, k * 3 + q * 3 + 1, none⟩ = some (.int .i64 zf) ∧ w'.cell? ⟨blk, k * 3 + q * 3 + 2, none⟩ = some (.int .i64 zt) ∧ w'.cell? ⟨blk, k * 3 + j2 * 3, none⟩ = some (.int .i64 za) ∧ w'.cell? ⟨blk, k * 3 + j2 * 3 + 1, none⟩ = some (.int .i64 zf) ∧ w'.cell? ⟨blk, k * 3 + j2 * 3 + 2, none⟩ = some (.int .i64 wt)) K hmx ?_ (fun _ _ h => h)
                      refine wpAnyH_take (i := 0) (v := .slice (some ⟨blk, k * 3, none⟩) m c2) rfl (by kernel_rfl) (by kernel_rfl) (by kernel_rfl) (fun _ _ _ h => h) (Or.inl ⟨by rfl, ?_⟩) hS ?_
                      · rintro w6 ⟨s1, s2, s3, s4, s5, s6⟩
                        go_simp
                      simp only [Act.put, List.setIfInBounds_toArray, List.set_cons_zero, List.set_cons_succ, List.getElem_toArray, List.getElem_cons_zero]
                      refine wpAnyH_take (i := 1) (v := .int .i64 (q : Int)) rfl (by kernel_rfl) (by kernel_rfl) (by kernel_rfl) (fun _ _ _ h => h) (Or.inl ⟨by rfl, ?_⟩) hS ?_
                      · rintro w6 ⟨s1, s2, s3, s4, s5, s6⟩
                        go_simp
                      simp only [Act.put, List.setIfInBounds_toArray, List.set_cons_zero, List.set_cons_succ, List.getElem_toArray, List.getElem_cons_zero, List.getElem_cons_succ]
                      refine wpAnyH_take (i := 2) (v := .pointer (some ⟨blk, k * 3 + q * 3, none⟩)) rfl (by kernel_rfl) (by kernel_rfl) (by kernel_rfl) (fun _ _ _ h => h) (Or.inl ⟨by rfl, ?_⟩) hS ?_
                      · rintro w6 ⟨s1, s2, s3, s4, s5, s6⟩
                        go_simp
                      simp only [Act.put, List.setIfInBounds_toArray, List.set_cons_zero, List.set_cons_succ, List.getElem_toArray, List.getElem_cons_zero, List.getElem_cons_succ]
                      refine wpAnyH_take (i := 3) (v := .agg #[.int .i64 za, .int .i64 zf, .int .i64 zt]) rfl (by kernel_rfl) (by kernel_rfl) (by kernel_rfl) (fun _ _ _ h => h) (Or.inl ⟨by rfl, ?_⟩) hS ?_
                      · rintro w6 ⟨s1, s2, s3, s4, s5, s6⟩
                        go_simp
                      simp only [Act.put, List.setIfInBounds_toArray, List.set_cons_zero, List.set_cons_succ, List.getElem_toArray, List.getElem_cons_zero, List.getElem_cons_succ]
                      refine wpAnyH_take (i := 4) (v := .slice (some ⟨blk, k * 3, none⟩) m c2) rfl (by kernel_rfl) (by kernel_rfl) (by kernel_rfl) (fun _ _ _ h => h) (Or.inl ⟨by rfl, ?_⟩) hS ?_
                      · rintro w6 ⟨s1, s2, s3, s4, s5, s6⟩
                        go_simp
                      simp only [Act.put, List.setIfInBounds_toArray, List.set_cons_zero, List.set_cons_succ, List.getElem_toArray, List.getElem_cons_zero, List.getElem_cons_succ]
                      refine wpAnyH_take (i := 5) (v := .int .i64 (q : Int)) rfl (by kernel_rfl) (by kernel_rfl) (by kernel_rfl) (fun _ _ _ h => h) (Or.inl ⟨by rfl, ?_⟩) hS ?_
                      · rintro w6 ⟨s1, s2, s3, s4, s5, s6⟩
                        go_simp
                      simp only [Act.put, List.setIfInBounds_toArray, List.set_cons_zero, List.set_cons_succ, List.getElem_toArray, List.getElem_cons_zero, List.getElem_cons_succ]
                      refine wpAnyH_take (i := 6) (v := .int .i64 (j2 : Int)) rfl (by kernel_rfl) (by kernel_rfl) (by kernel_rfl) (fun _ _ _ h => h) (Or.inl ⟨by rfl, ?_⟩) hS ?_
                      · rintro w6 ⟨s1, s2, s3, s4, s5, s6⟩
                        go_simp
                      simp only [Act.put, List.setIfInBounds_toArray, List.set_cons_zero, List.set_cons_succ, List.getElem_toArray, List.getElem_cons_zero, List.getElem_cons_succ]
                      refine wpAnyH_take (i := 7) (v := .pointer (some ⟨blk, k * 3 + j2 * 3, none⟩)) rfl (by kernel_rfl) (by kernel_rfl) (by kernel_rfl) (fun _ _ _ h => h) (Or.inl ⟨by rfl, ?_⟩) hS ?_
                      · rintro w6 ⟨s1, s2, s3, s4, s5, s6⟩
                        go_simp
                      simp only [Act.put, List.setIfInBounds_toArray, List.set_cons_zero, List.set_cons_succ, List.getElem_toArray, List.getElem_cons_zero, List.getElem_cons_succ]
                      refine wpAnyH_take (i := 8) (v := .agg #[.int .i64 za, .int .i64 zf, .int .i64 wt]) rfl (by kernel_rfl) (by kernel_rfl) (by kernel_rfl) (fun _ _ _ h => h) (Or.inl ⟨by rfl, ?_⟩) hS ?_
                      · rintro w6 ⟨s1, s2, s3, s4, s5, s6⟩
                        go_simp
                      simp only [Act.put, List.setIfInBounds_toArray, List.set_cons_zero, List.set_cons_succ, List.getElem_toArray, List.getElem_cons_zero, List.getElem_cons_succ]
                      refine wpAnyH_take (i := 9) (v := .bool true) rfl (by kernel_rfl) (by kernel_rfl) (by kernel_rfl) (fun _ _ _ h => h) (Or.inl ⟨by rfl, ?_⟩) hS ?_
                      · rintro w6 ⟨s1, s2, s3, s4, s5, s6⟩
                        go_simp
                      simp only [Act.put, List.setIfInBounds_toArray, List.set_cons_zero, List.set_cons_succ, List.getElem_toArray, List.getElem_cons_zero, List.getElem_cons_succ]
                      refine wpAnyH_done (by kernel_rfl) ?_ _
                      refine hK _ _ ?_
                      go_wp2_with (refine sgL_store rfl 45 (.tmp 51) (.tmp 50) rfl _ _ rfl rfl _ HST.out ?_)
                      go_roundw
                      case rel => exact ⟨kk + 1, q + 1, _, by go_num, by go_num, by omega, by omega, by omega, by omega, HPT.out, HO2.out, HN2.out⟩
                      case measure => simp [intOf]; omega
                    · have e3 : (zf == wf) = false := by simpa using h2
                      have HST := Lib.hid (run_storeAt_mid (P := Tryz.prog) wr.drew blk (kk * 3) 45 #[.int .i64 za, .int .i64 zf, .int .i64 zt] (HD2.out.there (by omega)) (by kernel_rfl) (by simp [Value.oneCell']))
                      have HPT : Hid (SI w base blk n cap (d.setIfInBounds kk ⟨za, zf, zt⟩) (wr.drew.setCells blk (kk * 3) [.int .i64 za, .int .i64 zf, .int .i64 zt])) := Lib.hid (HD2.out.put kk (by omega) _).1
                      go_wp2
                      have hS : (fun w' : World => w'.cell? ⟨blk, k * 3 + q * 3, none⟩ = some (.int .i64 za) ∧ w'.cell? ⟨blk, k * 3 + q * 3 + 1, none⟩ = some (.int .i64 zf) ∧ w'.cell? ⟨blk, k * 3 + q * 3 + 2, none⟩ = some (.int .i64 zt) ∧ w'.cell? ⟨blk, k * 3 + j2 * 3, none⟩ = some (.int .i64 za) ∧ w'.cell? ⟨blk, k * 3 + j2 * 3 + 1, none⟩ = some (.int .i64 wf) ∧ w'.cell? ⟨blk, k * 3 + j2 * 3 + 2, none⟩ = some (.int .i64 wt)) wr.drew := ⟨a1, a2, a3, b1, b2, b3⟩
                      rename_i K hK
                      refine wp_held (fun w' : World => w'.cell? ⟨blk, k * 3 + q * 3, none⟩ = some (.int .i64 za) ∧ w'.cell? ⟨blk, k * 3 + q * 3 + 1, none⟩ = some (.int .i64 zf) ∧ w'.cell? ⟨blk, k * 3 + q * 3 + 2, none⟩ = some (.int .i64 zt) ∧ w'.cell? ⟨blk, k * 3 + j2 * 3, none⟩ = some (.int .i64 za) ∧ w'.cell? ⟨blk, k * 3 + j2 * 3 + 1, none⟩ = some (.int .i64 wf) ∧ w'.cell? ⟨blk, k * 3 + j2 * 3 + 2, none⟩ = some (.int .i64 wt)) K hmx ?_ (fun _ _ h => h)
                      refine wpAnyH_take (i := 0) (v := .slice (some ⟨blk, k * 3, none⟩) m c2) rfl (by kernel_rfl) (by kernel_rfl) (by kernel_rfl) (fun _ _ _ h => h) (Or.inl ⟨by rfl, ?_⟩) hS ?_
                      · rintro w6 ⟨s1, s2, s3, s4, s5, s6⟩
                        go_simp
                      simp only [Act.put, List.setIfInBounds_toArray, List.set_cons_zero, List.set_cons_succ, List.getElem_toArray, List.getElem_cons_zero]
                      refine wpAnyH_take (i := 1) (v := .int .i64 (q : Int)) rfl (by kernel_rfl) (by kernel_rfl) (by kernel_rfl) (fun _ _ _ h => h) (Or.inl ⟨by rfl, ?_⟩) hS ?_
                      · rintro w6 ⟨s1, s2, s3, s4, s5, s6⟩
                        go_simp
                      simp only [Act.put, List.setIfInBounds_toArray, List.set_cons_zero, List.set_cons_succ, List.getElem_toArray, List.getElem_cons_zero, List.getElem_cons_succ]
                      refine wpAnyH_take (i := 2) (v := .pointer (some ⟨blk, k * 3 + q * 3, none⟩)) rfl (by kernel_rfl) (by kernel_rfl) (by kernel_rfl) (fun _ _ _ h => h) (Or.inl ⟨by rfl, ?_⟩) hS ?_
                      · rintro w6 ⟨s1, s2, s3, s4, s5, s6⟩
                        go_simp
                      simp only [Act.put, List.setIfInBounds_toArray, List.set_cons_zero, List.set_cons_succ, List.getElem_toArray, List.getElem_cons_zero, List.getElem_cons_succ]
                      refine wpAnyH_take (i := 3) (v := .agg #[.int .i64 za, .int .i64 zf, .int .i64 zt]) rfl (by kernel_rfl) (by kernel_rfl) (by kernel_rfl) (fun _ _ _ h => h) (Or.inl ⟨by rfl, ?_⟩) hS ?_
                      · rintro w6 ⟨s1, s2, s3, s4, s5, s6⟩
                        go_simp
                      simp only [Act.put, List.setIfInBounds_toArray, List.set_cons_zero, List.set_cons_succ, List.getElem_toArray, List.getElem_cons_zero, List.getElem_cons_succ]
                      refine wpAnyH_take (i := 4) (v := .slice (some ⟨blk, k * 3, none⟩) m c2) rfl (by kernel_rfl) (by kernel_rfl) (by kernel_rfl) (fun _ _ _ h => h) (Or.inl ⟨by rfl, ?_⟩) hS ?_
                      · rintro w6 ⟨s1, s2, s3, s4, s5, s6⟩
                        go_simp
                      simp only [Act.put, List.setIfInBounds_toArray, List.set_cons_zero, List.set_cons_succ, List.getElem_toArray, List.getElem_cons_zero, List.getElem_cons_succ]
                      refine wpAnyH_take (i := 5) (v := .int .i64 (q : Int)) rfl (by kernel_rfl) (by kernel_rfl) (by kernel_rfl) (fun _ _ _ h => h) (Or.inl ⟨by rfl, ?_⟩) hS ?_
                      · rintro w6 ⟨s1, s2, s3, s4, s5, s6⟩
                        go_simp
                      simp only [Act.put, List.setIfInBounds_toArray, List.set_cons_zero, List.set_cons_succ, List.getElem_toArray, List.getElem_cons_zero, List.getElem_cons_succ]
                      refine wpAnyH_take (i := 6) (v := .int .i64 (j2 : Int)) rfl (by kernel_rfl) (by kernel_rfl) (by kernel_rfl) (fun _ _ _ h => h) (Or.inl ⟨by rfl, ?_⟩) hS ?_
                      · rintro w6 ⟨s1, s2, s3, s4, s5, s6⟩
                        go_simp
                      simp only [Act.put, List.setIfInBounds_toArray, List.set_cons_zero, List.set_cons_succ, List.getElem_toArray, List.getElem_cons_zero, List.getElem_cons_succ]
                      refine wpAnyH_take (i := 7) (v := .pointer (some ⟨blk, k * 3 + j2 * 3, none⟩)) rfl (by kernel_rfl) (by kernel_rfl) (by kernel_rfl) (fun _ _ _ h => h) (Or.inl ⟨by rfl, ?_⟩) hS ?_
                      · rintro w6 ⟨s1, s2, s3, s4, s5, s6⟩
                        go_simp
                      simp only [Act.put, List.setIfInBounds_toArray, List.set_cons_zero, List.set_cons_succ, List.getElem_toArray, List.getElem_cons_zero, List.getElem_cons_succ]
                      refine wpAnyH_take (i := 8) (v := .agg #[.int .i64 za, .int .i64 wf, .int .i64 wt]) rfl (by kernel_rfl) (by kernel_rfl) (by kernel_rfl) (fun _ _ _ h => h) (Or.inl ⟨by rfl, ?_⟩) hS ?_
                      · rintro w6 ⟨s1, s2, s3, s4, s5, s6⟩
                        go_simp
                      simp only [Act.put, List.setIfInBounds_toArray, List.set_cons_zero, List.set_cons_succ, List.getElem_toArray, List.getElem_cons_zero, List.getElem_cons_succ]
                      refine wpAnyH_take (i := 9) (v := .bool true) rfl (by kernel_rfl) (by kernel_rfl) (by kernel_rfl) (fun _ _ _ h => h) (Or.inl ⟨by rfl, ?_⟩) hS ?_
                      · rintro w6 ⟨s1, s2, s3, s4, s5, s6⟩
                        go_simp
                      simp only [Act.put, List.setIfInBounds_toArray, List.set_cons_zero, List.set_cons_succ, List.getElem_toArray, List.getElem_cons_zero, List.getElem_cons_succ]
                      refine wpAnyH_done (by kernel_rfl) ?_ _
                      refine hK _ _ ?_
                      go_wp2_with (refine sgL_store rfl 45 (.tmp 51) (.tmp 50) rfl _ _ rfl rfl _ HST.out ?_)
                      go_roundw
                      case rel => exact ⟨kk + 1, q + 1, _, by go_num, by go_num, by omega, by omega, by omega, by omega, HPT.out, HO2.out, HN2.out⟩
                      case measure => simp [intOf]; omega
                  · have e3 : (za == wa) = false := by simpa using h1
                    have HST := Lib.hid (run_storeAt_mid (P := Tryz.prog) wr.drew blk (kk * 3) 45 #[.int .i64 za, .int .i64 zf, .int .i64 zt] (HD2.out.there (by omega)) (by kernel_rfl) (by simp [Value.oneCell']))
                    have HPT : Hid (SI w base blk n cap (d.setIfInBounds kk ⟨za, zf, zt⟩) (wr.drew.setCells blk (kk * 3) [.int .i64 za, .int .i64 zf, .int .i64 zt])) := Lib.hid (HD2.out.put kk (by omega) _).1
                    go_wp2
                    have hS : (fun w' : World => w'.cell? ⟨blk, k * 3 + q * 3, none⟩ = some (.int .i64 za) ∧ w'.cell? ⟨blk, k * 3 + q * 3 + 1, none⟩ = some (.int .i64 zf) ∧ w'.cell? ⟨blk, k * 3 + q * 3 + 2, none⟩ = some (.int .i64 zt) ∧ w'.cell? ⟨blk, k * 3 + j2 * 3, none⟩ = some (.int .i64 wa) ∧ w'.cell? ⟨blk, k * 3 + j2 * 3 + 1, none⟩ = some (.int .i64 wf) ∧ w'.cell? ⟨blk, k * 3 + j2 * 3 + 2, none⟩ = some (.int .i64 wt)) wr.drew := ⟨a1, a2, a3, b1, b2, b3⟩
                    rename_i K hK
                    refine wp_held (fun w' : World => w'.cell? ⟨blk, k * 3 + q * 3, none⟩ = some (.int .i64 za) ∧ w'.cell? ⟨blk, k * 3 + q * 3 + 1, none⟩ = some (.int .i64 zf) ∧ w'.cell? ⟨blk, k * 3 + q * 3 + 2, none⟩ = some (.int .i64 zt) ∧ w'.cell? ⟨blk, k * 3 + j2 * 3, none⟩ = some (.int .i64 wa) ∧ w'.cell? ⟨blk, k * 3 + j2 * 3 + 1, none⟩ = some (.int .i64 wf) ∧ w'.cell? ⟨blk, k * 3 + j2 * 3 + 2, none⟩ = some (.int .i64 wt)) K hmx ?_ (fun _ _ h => h)
                    refine wpAnyH_take (i := 0) (v := .slice (some ⟨blk, k * 3, none⟩) m c2) rfl (by kernel_rfl) (by kernel_rfl) (by kernel_rfl) (fun _ _ _ h => h) (Or.inl ⟨by rfl, ?_⟩) hS ?_
                    · rintro w6 ⟨s1, s2, s3, s4, s5, s6⟩
                      go_simp
                    simp only [Act.put, List.setIfInBounds_toArray, List.set_cons_zero, List.set_cons_succ, List.getElem_toArray, List.getElem_cons_zero]
                    refine wpAnyH_take (i := 1) (v := .int .i64 (q : Int)) rfl (by kernel_rfl) (by kernel_rfl) (by kernel_rfl) (fun _ _ _ h => h) (Or.inl ⟨by rfl, ?_⟩) hS ?_
                    · rintro w6 ⟨s1, s2, s3, s4, s5, s6⟩
                      go_simp
                    simp only [Act.put, List.setIfInBounds_toArray, List.set_cons_zero, List.set_cons_succ, List.getElem_toArray, List.getElem_cons_zero, List.getElem_cons_succ]
                    refine wpAnyH_take (i := 2) (v := .pointer (some ⟨blk, k * 3 + q * 3, none⟩)) rfl (by kernel_rfl) (by kernel_rfl) (by kernel_rfl) (fun _ _ _ h => h) (Or.inl ⟨by rfl, ?_⟩) hS ?_
                    · rintro w6 ⟨s1, s2, s3, s4, s5, s6⟩
                      go_simp
                    simp only [Act.put, List.setIfInBounds_toArray, List.set_cons_zero, List.set_cons_succ, List.getElem_toArray, List.getElem_cons_zero, List.getElem_cons_succ]
                    refine wpAnyH_take (i := 3) (v := .agg #[.int .i64 za, .int .i64 zf, .int .i64 zt]) rfl (by kernel_rfl) (by kernel_rfl) (by kernel_rfl) (fun _ _ _ h => h) (Or.inl ⟨by rfl, ?_⟩) hS ?_
                    · rintro w6 ⟨s1, s2, s3, s4, s5, s6⟩
                      go_simp
                    simp only [Act.put, List.setIfInBounds_toArray, List.set_cons_zero, List.set_cons_succ, List.getElem_toArray, List.getElem_cons_zero, List.getElem_cons_succ]
                    refine wpAnyH_take (i := 4) (v := .slice (some ⟨blk, k * 3, none⟩) m c2) rfl (by kernel_rfl) (by kernel_rfl) (by kernel_rfl) (fun _ _ _ h => h) (Or.inl ⟨by rfl, ?_⟩) hS ?_
                    · rintro w6 ⟨s1, s2, s3, s4, s5, s6⟩
                      go_simp
                    simp only [Act.put, List.setIfInBounds_toArray, List.set_cons_zero, List.set_cons_succ, List.getElem_toArray, List.getElem_cons_zero, List.getElem_cons_succ]
                    refine wpAnyH_take (i := 5) (v := .int .i64 (q : Int)) rfl (by kernel_rfl) (by kernel_rfl) (by kernel_rfl) (fun _ _ _ h => h) (Or.inl ⟨by rfl, ?_⟩) hS ?_
                    · rintro w6 ⟨s1, s2, s3, s4, s5, s6⟩
                      go_simp
                    simp only [Act.put, List.setIfInBounds_toArray, List.set_cons_zero, List.set_cons_succ, List.getElem_toArray, List.getElem_cons_zero, List.getElem_cons_succ]
                    refine wpAnyH_take (i := 6) (v := .int .i64 (j2 : Int)) rfl (by kernel_rfl) (by kernel_rfl) (by kernel_rfl) (fun _ _ _ h => h) (Or.inl ⟨by rfl, ?_⟩) hS ?_
                    · rintro w6 ⟨s1, s2, s3, s4, s5, s6⟩
                      go_simp
                    simp only [Act.put, List.setIfInBounds_toArray, List.set_cons_zero, List.set_cons_succ, List.getElem_toArray, List.getElem_cons_zero, List.getElem_cons_succ]
                    refine wpAnyH_take (i := 7) (v := .pointer (some ⟨blk, k * 3 + j2 * 3, none⟩)) rfl (by kernel_rfl) (by kernel_rfl) (by kernel_rfl) (fun _ _ _ h => h) (Or.inl ⟨by rfl, ?_⟩) hS ?_
                    · rintro w6 ⟨s1, s2, s3, s4, s5, s6⟩
                      go_simp
                    simp only [Act.put, List.setIfInBounds_toArray, List.set_cons_zero, List.set_cons_succ, List.getElem_toArray, List.getElem_cons_zero, List.getElem_cons_succ]
                    refine wpAnyH_take (i := 8) (v := .agg #[.int .i64 wa, .int .i64 wf, .int .i64 wt]) rfl (by kernel_rfl) (by kernel_rfl) (by kernel_rfl) (fun _ _ _ h => h) (Or.inl ⟨by rfl, ?_⟩) hS ?_
                    · rintro w6 ⟨s1, s2, s3, s4, s5, s6⟩
                      go_simp
                    simp only [Act.put, List.setIfInBounds_toArray, List.set_cons_zero, List.set_cons_succ, List.getElem_toArray, List.getElem_cons_zero, List.getElem_cons_succ]
                    refine wpAnyH_take (i := 9) (v := .bool true) rfl (by kernel_rfl) (by kernel_rfl) (by kernel_rfl) (fun _ _ _ h => h) (Or.inl ⟨by rfl, ?_⟩) hS ?_
                    · rintro w6 ⟨s1, s2, s3, s4, s5, s6⟩
                      go_simp
                    simp only [Act.put, List.setIfInBounds_toArray, List.set_cons_zero, List.set_cons_succ, List.getElem_toArray, List.getElem_cons_zero, List.getElem_cons_succ]
                    refine wpAnyH_done (by kernel_rfl) ?_ _
                    refine hK _ _ ?_
                    go_wp2_with (refine sgL_store rfl 45 (.tmp 51) (.tmp 50) rfl _ _ rfl rfl _ HST.out ?_)
                    go_roundw
                    case rel => exact ⟨kk + 1, q + 1, _, by go_num, by go_num, by omega, by omega, by omega, by omega, HPT.out, HO2.out, HN2.out⟩
                    case measure => simp [intOf]; omega
              · obtain rfl : q = m := by omega
                have hc : d.toList.take kk = compG l := by
                  have hlt2 : l.take (k + q) = l := List.take_of_length_le (by rw [HNL.out]; omega)
                  rw [HC.out, hlt2]
                have hdz := HD.out.size
                have hcl : (compG l).length = kk := by rw [← hc, List.length_take, Array.length_toList]; omega
                have hthere := HD.out.span (k := kk) (by omega)
                have hclr := fun ty => run_clear_G wr ty blk (kk * 3) (n - kk) (cap - kk) (by omega) (fun j hj => (hthere j (by omega)).1) (fun j hj => (hthere j (by omega)).2)
                obtain ⟨f1, f2⟩ := HD.out.front kk (by omega) (Builtin.zeroCells zG (n - kk)).toList (by
                  obtain ⟨cur, hg, hs, _⟩ := HD.out.has
                  exact ⟨cur.size, by simp [Builtin.zeroCells, zG]; omega, cur, hg, rfl⟩)
                have HF1 := Lib.hid f1
                have HF2 := Lib.hid (gb_trans HD.out.gr f2)
                have HCC := Lib.hid hc
                have HCL := Lib.hid hcl
                have g6 : (kk : Int) ≤ (n : Int) := by omega
                have g7 : (0 : Int) ≤ (kk : Int) := by omega
                have g8 : (kk : Int) ≤ (cap : Int) := by omega
                clear f1 f2 hc hcl hthere hdz
                go_wp2
                go_ret
                refine ⟨_, rfl, HF2.out, ?_⟩
                rw [HCL.out, ← HCC.out]
                exact HF1.out
          · have HN : Hid (compG (l.take (k + 1)) = l.take (k + 1)) := Lib.hid (by
              rw [HM.out, if_neg (fun e => hxy e.symm), HK.out, List.take_add_one, HX.out]
              rfl)
            obtain ⟨xa, xf, xt⟩ := x
            obtain ⟨ya, yf, yt⟩ := y
            dsimp only at a1 a2 a3 b1 b2 b3
            by_cases h1 : xa = ya
            · subst h1
              by_cases h2 : xf = yf
              · subst h2
                have h3 : ¬ xt = yt := fun e => hxy (by rw [e])
                have e3 : (xt == yt) = false := by simpa using h3
                go_wp2
                have hS : (fun w' : World => w'.cell? ⟨blk, k * 3, none⟩ = some (.int .i64 xa) ∧ w'.cell? ⟨blk, k * 3 + 1, none⟩ = some (.int .i64 xf) ∧ w'.cell? ⟨blk, k * 3 + 2, none⟩ = some (.int .i64 xt) ∧ w'.cell? ⟨blk, j * 3, none⟩ = some (.int .i64 xa) ∧ w'.cell? ⟨blk, j * 3 + 1, none⟩ = some (.int .i64 xf) ∧ w'.cell? ⟨blk, j * 3 + 2, none⟩ = some (.int .i64 yt)) wr.drew := ⟨a1, a2, a3, b1, b2, b3⟩
                rename_i K hK
                refine wp_held (fun w' : World => w'.cell? ⟨blk, k * 3, none⟩ = some (.int .i64 xa) ∧ w'.cell? ⟨blk, k * 3 + 1, none⟩ = some (.int .i64 xf) ∧ w'.cell? ⟨blk, k * 3 + 2, none⟩ = some (.int .i64 xt) ∧ w'.cell? ⟨blk, j * 3, none⟩ = some (.int .i64 xa) ∧ w'.cell? ⟨blk, j * 3 + 1, none⟩ = some (.int .i64 xf) ∧ w'.cell? ⟨blk, j * 3 + 2, none⟩ = some (.int .i64 yt)) K hmx ?_ (fun _ _ h => h)
                refine wpAnyH_take (i := 0) (v := .slice (some ⟨blk, 0, none⟩) n cap) rfl (by kernel_rfl) (by kernel_rfl) (by kernel_rfl) (fun _ _ _ h => h) (Or.inl ⟨by rfl, ?_⟩) hS ?_
                · rintro w6 ⟨s1, s2, s3, s4, s5, s6⟩
                  go_simp
                simp only [Act.put, List.setIfInBounds_toArray, List.set_cons_zero, List.set_cons_succ, List.getElem_toArray, List.getElem_cons_zero]
                refine wpAnyH_take (i := 1) (v := .int .i64 (k : Int)) rfl (by kernel_rfl) (by kernel_rfl) (by kernel_rfl) (fun _ _ _ h => h) (Or.inl ⟨by rfl, ?_⟩) hS ?_
                · rintro w6 ⟨s1, s2, s3, s4, s5, s6⟩
                  go_simp
                simp only [Act.put, List.setIfInBounds_toArray, List.set_cons_zero, List.set_cons_succ, List.getElem_toArray, List.getElem_cons_zero, List.getElem_cons_succ]
                refine wpAnyH_take (i := 2) (v := .pointer (some ⟨blk, k * 3, none⟩)) rfl (by kernel_rfl) (by kernel_rfl) (by kernel_rfl) (fun _ _ _ h => h) (Or.inl ⟨by rfl, ?_⟩) hS ?_
                · rintro w6 ⟨s1, s2, s3, s4, s5, s6⟩
                  go_simp
                simp only [Act.put, List.setIfInBounds_toArray, List.set_cons_zero, List.set_cons_succ, List.getElem_toArray, List.getElem_cons_zero, List.getElem_cons_succ]
                refine wpAnyH_take (i := 3) (v := .agg #[.int .i64 xa, .int .i64 xf, .int .i64 xt]) rfl (by kernel_rfl) (by kernel_rfl) (by kernel_rfl) (fun _ _ _ h => h) (Or.inl ⟨by rfl, ?_⟩) hS ?_
                · rintro w6 ⟨s1, s2, s3, s4, s5, s6⟩
                  go_simp
                simp only [Act.put, List.setIfInBounds_toArray, List.set_cons_zero, List.set_cons_succ, List.getElem_toArray, List.getElem_cons_zero, List.getElem_cons_succ]
                refine wpAnyH_take (i := 4) (v := .slice (some ⟨blk, 0, none⟩) n cap) rfl (by kernel_rfl) (by kernel_rfl) (by kernel_rfl) (fun _ _ _ h => h) (Or.inl ⟨by rfl, ?_⟩) hS ?_
                · rintro w6 ⟨s1, s2, s3, s4, s5, s6⟩
                  go_simp
                simp only [Act.put, List.setIfInBounds_toArray, List.set_cons_zero, List.set_cons_succ, List.getElem_toArray, List.getElem_cons_zero, List.getElem_cons_succ]
                refine wpAnyH_take (i := 5) (v := .int .i64 (k : Int)) rfl (by kernel_rfl) (by kernel_rfl) (by kernel_rfl) (fun _ _ _ h => h) (Or.inl ⟨by rfl, ?_⟩) hS ?_
                · rintro w6 ⟨s1, s2, s3, s4, s5, s6⟩
                  go_simp
                simp only [Act.put, List.setIfInBounds_toArray, List.set_cons_zero, List.set_cons_succ, List.getElem_toArray, List.getElem_cons_zero, List.getElem_cons_succ]
                refine wpAnyH_take (i := 6) (v := .int .i64 (j : Int)) rfl (by kernel_rfl) (by kernel_rfl) (by kernel_rfl) (fun _ _ _ h => h) (Or.inl ⟨by rfl, ?_⟩) hS ?_
                · rintro w6 ⟨s1, s2, s3, s4, s5, s6⟩
                  go_simp
                simp only [Act.put, List.setIfInBounds_toArray, List.set_cons_zero, List.set_cons_succ, List.getElem_toArray, List.getElem_cons_zero, List.getElem_cons_succ]
                refine wpAnyH_take (i := 7) (v := .pointer (some ⟨blk, j * 3, none⟩)) rfl (by kernel_rfl) (by kernel_rfl) (by kernel_rfl) (fun _ _ _ h => h) (Or.inl ⟨by rfl, ?_⟩) hS ?_
                · rintro w6 ⟨s1, s2, s3, s4, s5, s6⟩
                  go_simp
                simp only [Act.put, List.setIfInBounds_toArray, List.set_cons_zero, List.set_cons_succ, List.getElem_toArray, List.getElem_cons_zero, List.getElem_cons_succ]
                refine wpAnyH_take (i := 8) (v := .agg #[.int .i64 xa, .int .i64 xf, .int .i64 yt]) rfl (by kernel_rfl) (by kernel_rfl) (by kernel_rfl) (fun _ _ _ h => h) (Or.inl ⟨by rfl, ?_⟩) hS ?_
                · rintro w6 ⟨s1, s2, s3, s4, s5, s6⟩
                  go_simp
                simp only [Act.put, List.setIfInBounds_toArray, List.set_cons_zero, List.set_cons_succ, List.getElem_toArray, List.getElem_cons_zero, List.getElem_cons_succ]
                refine wpAnyH_take (i := 9) (v := .bool false) rfl (by kernel_rfl) (by kernel_rfl) (by kernel_rfl) (fun _ _ _ h => h) (Or.inl ⟨by rfl, ?_⟩) hS ?_
                · rintro w6 ⟨s1, s2, s3, s4, s5, s6⟩
                  go_simp
                simp only [Act.put, List.setIfInBounds_toArray, List.set_cons_zero, List.set_cons_succ, List.getElem_toArray, List.getElem_cons_zero, List.getElem_cons_succ]
                refine wpAnyH_done (by kernel_rfl) ?_ _
                refine hK _ _ ?_
                go_wp2
                go_roundw
                case rel => exact ⟨k + 1, by go_num, by omega, by omega, HI2.out, HN.out⟩
                case measure => simp [intOf]; omega
              · have e3 : (xf == yf) = false := by simpa using h2
                go_wp2
                have hS : (fun w' : World => w'.cell? ⟨blk, k * 3, none⟩ = some (.int .i64 xa) ∧ w'.cell? ⟨blk, k * 3 + 1, none⟩ = some (.int .i64 xf) ∧ w'.cell? ⟨blk, k * 3 + 2, none⟩ = some (.int .i64 xt) ∧ w'.cell? ⟨blk, j * 3, none⟩ = some (.int .i64 xa) ∧ w'.cell? ⟨blk, j * 3 + 1, none⟩ = some (.int .i64 yf) ∧ w'.cell? ⟨blk, j * 3 + 2, none⟩ = some (.int .i64 yt)) wr.drew := ⟨a1, a2, a3, b1, b2, b3⟩
                rename_i K hK
                refine wp_held (fun w' : World => w'.cell? ⟨blk, k * 3, none⟩ = some (.int .i64 xa) ∧ w'.cell? ⟨blk, k * 3 + 1, none⟩ = some (.int .i64 xf) ∧ w'.cell? ⟨blk, k * 3 + 2, none⟩ = some (.int .i64 xt) ∧ w'.cell? ⟨blk, j * 3, none⟩ = some (.int .i64 xa) ∧ w'.cell? ⟨blk, j * 3 + 1, none⟩ = some (.int .i64 yf) ∧ w'.cell? ⟨blk, j * 3 + 2, none⟩ = some (.int .i64 yt)) K hmx ?_ (fun _ _ h => h)
                refine wpAnyH_take (i := 0) (v := .slice (some ⟨blk, 0, none⟩) n cap) rfl (by kernel_rfl) (by kernel_rfl) (by kernel_rfl) (fun _ _ _ h => h) (Or.inl ⟨by rfl, ?_⟩) hS ?_
                · rintro w6 ⟨s1, s2, s3, s4, s5, s6⟩
                  go_simp
                simp only [Act.put, List.setIfInBounds_toArray, List.set_cons_zero, List.set_cons_succ, List.getElem_toArray, List.getElem_cons_zero]
                refine wpAnyH_take (i := 1) (v := .int .i64 (k : Int)) rfl (by kernel_rfl) (by kernel_rfl) (by kernel_rfl) (fun _ _ _ h => h) (Or.inl ⟨by rfl, ?_⟩) hS ?_
                · rintro w6 ⟨s1, s2, s3, s4, s5, s6⟩
                  go_simp
                simp only [Act.put, List.setIfInBounds_toArray, List.set_cons_zero, List.set_cons_succ, List.getElem_toArray, List.getElem_cons_zero, List.getElem_cons_succ]
                refine wpAnyH_take (i := 2) (v := .pointer (some ⟨blk, k * 3, none⟩)) rfl (by kernel_rfl) (by kernel_rfl) (by kernel_rfl) (fun _ _ _ h => h) (Or.inl ⟨by rfl, ?_⟩) hS ?_
                · rintro w6 ⟨s1, s2, s3, s4, s5, s6⟩
                  go_simp
                simp only [Act.put, List.setIfInBounds_toArray, List.set_cons_zero, List.set_cons_succ, List.getElem_toArray, List.getElem_cons_zero, List.getElem_cons_succ]
                refine wpAnyH_take (i := 3) (v := .agg #[.int .i64 xa, .int .i64 xf, .int .i64 xt]) rfl (by kernel_rfl) (by kernel_rfl) (by kernel_rfl) (fun _ _ _ h => h) (Or.inl ⟨by rfl, ?_⟩) hS ?_
                · rintro w6 ⟨s1, s2, s3, s4, s5, s6⟩
                  go_simp
                simp only [Act.put, List.setIfInBounds_toArray, List.set_cons_zero, List.set_cons_succ, List.getElem_toArray, List.getElem_cons_zero, List.getElem_cons_succ]
                refine wpAnyH_take (i := 4) (v := .slice (some ⟨blk, 0, none⟩) n cap) rfl (by kernel_rfl) (by kernel_rfl) (by kernel_rfl) (fun _ _ _ h => h) (Or.inl ⟨by rfl, ?_⟩) hS ?_
                · rintro w6 ⟨s1, s2, s3, s4, s5, s6⟩
                  go_simp
                simp only [Act.put, List.setIfInBounds_toArray, List.set_cons_zero, List.set_cons_succ, List.getElem_toArray, List.getElem_cons_zero, List.getElem_cons_succ]
                refine wpAnyH_take (i := 5) (v := .int .i64 (k : Int)) rfl (by kernel_rfl) (by kernel_rfl) (by kernel_rfl) (fun _ _ _ h => h) (Or.inl ⟨by rfl, ?_⟩) hS ?_
                · rintro w6 ⟨s1, s2, s3, s4, s5, s6⟩
                  go_simp
                simp only [Act.put, List.setIfInBounds_toArray, List.set_cons_zero, List.set_cons_succ, List.getElem_toArray, List.getElem_cons_zero, List.getElem_cons_succ]
                refine wpAnyH_take (i := 6) (v := .int .i64 (j : Int)) rfl (by kernel_rfl) (by kernel_rfl) (by kernel_rfl) (fun _ _ _ h => h) (Or.inl ⟨by rfl, ?_⟩) hS ?_
                · rintro w6 ⟨s1, s2, s3, s4, s5, s6⟩
                  go_simp
                simp only [Act.put, List.setIfInBounds_toArray, List.set_cons_zero, List.set_cons_succ, List.getElem_toArray, List.getElem_cons_zero, List.getElem_cons_succ]
                refine wpAnyH_take (i := 7) (v := .pointer (some ⟨blk, j * 3, none⟩)) rfl (by kernel_rfl) (by kernel_rfl) (by kernel_rfl) (fun _ _ _ h => h) (Or.inl ⟨by rfl, ?_⟩) hS ?_
                · rintro w6 ⟨s1, s2, s3, s4, s5, s6⟩
                  go_simp
                simp only [Act.put, List.setIfInBounds_toArray, List.set_cons_zero, List.set_cons_succ, List.getElem_toArray, List.getElem_cons_zero, List.getElem_cons_succ]
                refine wpAnyH_take (i := 8) (v := .agg #[.int .i64 xa, .int .i64 yf, .int .i64 yt]) rfl (by kernel_rfl) (by kernel_rfl) (by kernel_rfl) (fun _ _ _ h => h) (Or.inl ⟨by rfl, ?_⟩) hS ?_
                · rintro w6 ⟨s1, s2, s3, s4, s5, s6⟩
                  go_simp
                simp only [Act.put, List.setIfInBounds_toArray, List.set_cons_zero, List.set_cons_succ, List.getElem_toArray, List.getElem_cons_zero, List.getElem_cons_succ]
                refine wpAnyH_take (i := 9) (v := .bool false) rfl (by kernel_rfl) (by kernel_rfl) (by kernel_rfl) (fun _ _ _ h => h) (Or.inl ⟨by rfl, ?_⟩) hS ?_
                · rintro w6 ⟨s1, s2, s3, s4, s5, s6⟩
                  go_simp
                simp only [Act.put, List.setIfInBounds_toArray, List.set_cons_zero, List.set_cons_succ, List.getElem_toArray, List.getElem_cons_zero, List.getElem_cons_succ]
                refine wpAnyH_done (by kernel_rfl) ?_ _
                refine hK _ _ ?_
                go_wp2
                go_roundw
                case rel => exact ⟨k + 1, by go_num, by omega, by omega, HI2.out, HN.out⟩
                case measure => simp [intOf]; omega
            · have e3 : (xa == ya) = false := by simpa using h1
              go_wp2
              have hS : (fun w' : World => w'.cell? ⟨blk, k * 3, none⟩ = some (.int .i64 xa) ∧ w'.cell? ⟨blk, k * 3 + 1, none⟩ = some (.int .i64 xf) ∧ w'.cell? ⟨blk, k * 3 + 2, none⟩ = some (.int .i64 xt) ∧ w'.cell? ⟨blk, j * 3, none⟩ = some (.int .i64 ya) ∧ w'.cell? ⟨blk, j * 3 + 1, none⟩ = some (.int .i64 yf) ∧ w'.cell? ⟨blk, j * 3 + 2, none⟩ = some (.int .i64 yt)) wr.drew := ⟨a1, a2, a3, b1, b2, b3⟩
              rename_i K hK
              refine wp_held (fun w' : World => w'.cell? ⟨blk, k * 3, none⟩ = some (.int .i64 xa) ∧ w'.cell? ⟨blk, k * 3 + 1, none⟩ = some (.int .i64 xf) ∧ w'.cell? ⟨blk, k * 3 + 2, none⟩ = some (.int .i64 xt) ∧ w'.cell? ⟨blk, j * 3, none⟩ = some (.int .i64 ya) ∧ w'.cell? ⟨blk, j * 3 + 1, none⟩ = some (.int .i64 yf) ∧ w'.cell? ⟨blk, j * 3 + 2, none⟩ = some (.int .i64 yt)) K hmx ?_ (fun _ _ h => h)
              refine wpAnyH_take (i := 0) (v := .slice (some ⟨blk, 0, none⟩) n cap) rfl (by kernel_rfl) (by kernel_rfl) (by kernel_rfl) (fun _ _ _ h => h) (Or.inl ⟨by rfl, ?_⟩) hS ?_
              · rintro w6 ⟨s1, s2, s3, s4, s5, s6⟩
                go_simp
              simp only [Act.put, List.setIfInBounds_toArray, List.set_cons_zero, List.set_cons_succ, List.getElem_toArray, List.getElem_cons_zero]
              refine wpAnyH_take (i := 1) (v := .int .i64 (k : Int)) rfl (by kernel_rfl) (by kernel_rfl) (by kernel_rfl) (fun _ _ _ h => h) (Or.inl ⟨by rfl, ?_⟩) hS ?_
              · rintro w6 ⟨s1, s2, s3, s4, s5, s6⟩
                go_simp
              simp only [Act.put, List.setIfInBounds_toArray, List.set_cons_zero, List.set_cons_succ, List.getElem_toArray, List.getElem_cons_zero, List.getElem_cons_succ]
              refine wpAnyH_take (i := 2) (v := .pointer (some ⟨blk, k * 3, none⟩)) rfl (by kernel_rfl) (by kernel_rfl) (by kernel_rfl) (fun _ _ _ h => h) (Or.inl ⟨by rfl, ?_⟩) hS ?_
              · rintro w6 ⟨s1, s2, s3, s4, s5, s6⟩
                go_simp
              simp only [Act.put, List.setIfInBounds_toArray, List.set_cons_zero, List.set_cons_succ, List.getElem_toArray, List.getElem_cons_zero, List.getElem_cons_succ]
              refine wpAnyH_take (i := 3) (v := .agg #[.int .i64 xa, .int .i64 xf, .int .i64 xt]) rfl (by kernel_rfl) (by kernel_rfl) (by kernel_rfl) (fun _ _ _ h => h) (Or.inl ⟨by rfl, ?_⟩) hS ?_
              · rintro w6 ⟨s1, s2, s3, s4, s5, s6⟩
                go_simp
              simp only [Act.put, List.setIfInBounds_toArray, List.set_cons_zero, List.set_cons_succ, List.getElem_toArray, List.getElem_cons_zero, List.getElem_cons_succ]
              refine wpAnyH_take (i := 4) (v := .slice (some ⟨blk, 0, none⟩) n cap) rfl (by kernel_rfl) (by kernel_rfl) (by kernel_rfl) (fun _ _ _ h => h) (Or.inl ⟨by rfl, ?_⟩) hS ?_
              · rintro w6 ⟨s1, s2, s3, s4, s5, s6⟩
                go_simp
              simp only [Act.put, List.setIfInBounds_toArray, List.set_cons_zero, List.set_cons_succ, List.getElem_toArray, List.getElem_cons_zero, List.getElem_cons_succ]
              refine wpAnyH_take (i := 5) (v := .int .i64 (k : Int)) rfl (by kernel_rfl) (by kernel_rfl) (by kernel_rfl) (fun _ _ _ h => h) (Or.inl ⟨by rfl, ?_⟩) hS ?_
              · rintro w6 ⟨s1, s2, s3, s4, s5, s6⟩
                go_simp
              simp only [Act.put, List.setIfInBounds_toArray, List.set_cons_zero, List.set_cons_succ, List.getElem_toArray, List.getElem_cons_zero, List.getElem_cons_succ]
              refine wpAnyH_take (i := 6) (v := .int .i64 (j : Int)) rfl (by kernel_rfl) (by kernel_rfl) (by kernel_rfl) (fun _ _ _ h => h) (Or.inl ⟨by rfl, ?_⟩) hS ?_
              · rintro w6 ⟨s1, s2, s3, s4, s5, s6⟩
                go_simp
              simp only [Act.put, List.setIfInBounds_toArray, List.set_cons_zero, List.set_cons_succ, List.getElem_toArray, List.getElem_cons_zero, List.getElem_cons_succ]
              refine wpAnyH_take (i := 7) (v := .pointer (some ⟨blk, j * 3, none⟩)) rfl (by kernel_rfl) (by kernel_rfl) (by kernel_rfl) (fun _ _ _ h => h) (Or.inl ⟨by rfl, ?_⟩) hS ?_
              · rintro w6 ⟨s1, s2, s3, s4, s5, s6⟩
                go_simp
              simp only [Act.put, List.setIfInBounds_toArray, List.set_cons_zero, List.set_cons_succ, List.getElem_toArray, List.getElem_cons_zero, List.getElem_cons_succ]
              refine wpAnyH_take (i := 8) (v := .agg #[.int .i64 ya, .int .i64 yf, .int .i64 yt]) rfl (by kernel_rfl) (by kernel_rfl) (by kernel_rfl) (fun _ _ _ h => h) (Or.inl ⟨by rfl, ?_⟩) hS ?_
              · rintro w6 ⟨s1, s2, s3, s4, s5, s6⟩
                go_simp
              simp only [Act.put, List.setIfInBounds_toArray, List.set_cons_zero, List.set_cons_succ, List.getElem_toArray, List.getElem_cons_zero, List.getElem_cons_succ]
              refine wpAnyH_take (i := 9) (v := .bool false) rfl (by kernel_rfl) (by kernel_rfl) (by kernel_rfl) (fun _ _ _ h => h) (Or.inl ⟨by rfl, ?_⟩) hS ?_
              · rintro w6 ⟨s1, s2, s3, s4, s5, s6⟩
                go_simp
              simp only [Act.put, List.setIfInBounds_toArray, List.set_cons_zero, List.set_cons_succ, List.getElem_toArray, List.getElem_cons_zero, List.getElem_cons_succ]
              refine wpAnyH_done (by kernel_rfl) ?_ _
              refine hK _ _ ?_
              go_wp2
              go_roundw
              case rel => exact ⟨k + 1, by go_num, by omega, by omega, HI2.out, HN.out⟩
              case measure => simp [intOf]; omega
        · obtain rfl : k = n := by omega
          have hc : compG l = l := by
            have := HK.out
            rwa [List.take_of_length_le (Nat.le_of_eq HNL.out)] at this
          have HCL := Lib.hid hc
          clear hc
          go_wp2
          go_ret
          refine ⟨_, rfl, HI1.out.gr, ?_⟩
          rw [HCL.out, HNL.out]
          exact HI1.out.row

end Go.Proofs.YtglkmpglpddfdaaGreatDoor
