/- The laws of layer 6: a step in another region: contract, no statement. -/
import Derived.Test.YthbchloghbfnmaaDym
namespace Go.Proofs.Ythbchloghbfnmaa
open Go.RowKit
set_option linter.unusedVariables false

def othA (rs : List Rg) (s : St) : List Rg :=
  if s.kind = 0 then (wrA rs s.region s.page (pgB s)).1 else if s.kind = 1 then (syA rs s.region).1 else if s.kind = 2 then stA rs s.region s.page else rs
theorem othA_len (rs : List Rg) (s : St) : (othA rs s).length = rs.length := by
  unfold othA
  split
  · exact set_len_wrA _ _ _ _
  · split
    · exact set_len_syA _ _
    · split
      · exact set_len_stA _ _ _
      · rfl
theorem regN_set {rs : List Rg} {x k : Int} (h : x ≠ k) (hx : 0 ≤ x) (r : Rg) : regN (rs.set x.toNat r) k = regN rs k := by
  unfold regN
  split
  · rfl
  · rw [List.getElem?_set_ne (by omega)]
theorem regN_self {rs : List Rg} {x : Int} {r q : Rg} (h : regN rs x = some r) : regN (rs.set x.toNat q) x = some q := by
  obtain ⟨h1, h2, h3⟩ := regN_some h
  unfold regN
  rw [if_neg (by omega), List.getElem?_set_self (by omega)]
theorem regN_wr {rs : List Rg} {x k : Int} (h : x ≠ k) (p : Int) (l : List UInt8) : regN (wrA rs x p l).1 k = regN rs k := by
  unfold wrA
  split
  · rfl
  · rename_i r hr
    have h0 := (regN_some hr).1
    repeat' split
    all_goals first | rfl | exact regN_set h h0 _
theorem regN_sy {rs : List Rg} {x k : Int} (h : x ≠ k) : regN (syA rs x).1 k = regN rs k := by
  unfold syA
  split
  · rfl
  · rename_i r hr
    have h0 := (regN_some hr).1
    repeat' split
    all_goals first | rfl | exact regN_set h h0 _
theorem regN_st {rs : List Rg} {x k : Int} (h : x ≠ k) (a : Int) : regN (stA rs x a) k = regN rs k := by
  unfold stA
  split
  · rfl
  · rename_i r hr
    exact regN_set h (regN_some hr).1 _
theorem regN_oth {rs : List Rg} {s : St} {k : Int} (h : s.region ≠ k) : regN (othA rs s) k = regN rs k := by
  unfold othA
  split
  · exact regN_wr h _ _
  · split
    · exact regN_sy h
    · split
      · exact regN_st h _
      · rfl
theorem wr_alike {ra rb : List Rg} {k : Int} (h : regN ra k = regN rb k) (p : Int) (l : List UInt8) : regN (wrA ra k p l).1 k = regN (wrA rb k p l).1 k ∧ (wrA ra k p l).2 = (wrA rb k p l).2 := by
  unfold wrA
  rw [← h]
  cases hr : regN ra k with
  | none => simp only; exact ⟨h, trivial⟩
  | some r =>
    have hr' := h.symm.trans hr
    simp only
    split
    · exact ⟨h, rfl⟩
    · split
      · split
        · split
          · exact ⟨(regN_self hr).trans (regN_self hr').symm, rfl⟩
          · exact ⟨(regN_self hr).trans (regN_self hr').symm, rfl⟩
        · exact ⟨h, rfl⟩
      · exact ⟨h, rfl⟩
theorem sy_alike {ra rb : List Rg} {k : Int} (h : regN ra k = regN rb k) : regN (syA ra k).1 k = regN (syA rb k).1 k ∧ (syA ra k).2 = (syA rb k).2 := by
  unfold syA
  rw [← h]
  cases hr : regN ra k with
  | none => simp only; exact ⟨h, trivial⟩
  | some r =>
    have hr' := h.symm.trans hr
    simp only
    split
    · exact ⟨h, rfl⟩
    · split
      · exact ⟨(regN_self hr).trans (regN_self hr').symm, rfl⟩
      · exact ⟨(regN_self hr).trans (regN_self hr').symm, rfl⟩
theorem st_alike {ra rb : List Rg} {k : Int} (h : regN ra k = regN rb k) (a : Int) : regN (stA ra k a) k = regN (stA rb k a) k := by
  unfold stA
  rw [← h]
  cases hr : regN ra k with
  | none => simp only; exact h
  | some r => exact (regN_self hr).trans (regN_self (h.symm.trans hr)).symm
/-- The texts that the other disk is told. -/
def kpN (ks : List (List UInt8)) (k : Nat) : List (List UInt8) := ks.mapIdx fun r s => if r = k then s else [255, 255]
theorem kpN_len (ks : List (List UInt8)) (k : Nat) : (kpN ks k).length = ks.length := by simp [kpN]
theorem kpN_at (ks : List (List UInt8)) (k : Nat) : (kpN ks k).getD k [] = ks.getD k [] := by
  simp only [List.getD, kpN, List.getElem?_mapIdx]
  cases ks[k]? <;> simp
theorem kpN_take {ks : List (List UInt8)} {k r : Nat} {s : List UInt8} (h : ks[r]? = some s) : ((kpN ks k).take (r + 1)).map txtV = ((kpN ks k).take r).map txtV ++ [txtV (if r = k then s else [255, 255])] := by
  rw [List.take_add_one]
  simp [kpN, List.getElem?_mapIdx, h]
theorem cr_alike {ra rb : List Rg} {k : Nat} (h : regN ra (k : Int) = regN rb (k : Int)) (ks : List (List UInt8)) : regN (crA ks ra) (k : Int) = regN (crA (kpN ks k) rb) (k : Int) := by
  unfold regN at h ⊢
  rw [if_neg (by omega)] at h ⊢
  rw [if_neg (by omega)] at h ⊢
  simp only [crA, List.getElem?_mapIdx, Int.toNat_natCast] at h ⊢
  rw [h]
  cases rb[k]? with
  | none => rfl
  | some r => simp only [Option.map_some, crOne, kpN_at]
theorem rd_alike {ra rb : List Rg} {k : Int} (h : regN ra k = regN rb k) (p : Int) : rdE ra k p = rdE rb k p ∧ rdL ra k p = rdL rb k p ∧ looL ra k = looL rb k ∧ downN ra k = downN rb k := by
  unfold rdE rdL looL downN
  rw [h]
  exact ⟨rfl, rfl, rfl, rfl⟩
theorem rd_no {l : List UInt8} {er : Int} (h0 : er ≠ 0) {w w' : World} {e : Ending} (h : RdEnd l er w e w') : Below w.heap.size w w' ∧ e = .returned (.tuple #[.slice none 0 0, .int .i64 er]) := by
  obtain ⟨hb, ⟨_, _, h⟩ | ⟨h, _⟩⟩ := h
  · exact ⟨hb, h⟩
  · exact absurd h h0
section
variable {w0 w : World} {T : Tg} {d D A N : Nat} {rs : List Rg}
set_option maxRecDepth 100000 in
set_option maxHeartbeats 2000000 in
theorem other_z (x : Sx) (h : Dz w0 w T d D A N rs) (hN : N ≤ 1000) (hp : x.s.page ≤ 9223372036854775807) :
    Calls Try.prog 28 #[.pointer (some ⟨D, 0, none⟩), .agg #[.int .i64 x.s.kind, .int .i64 x.s.region, .int .i64 x.s.page, .int .u8 (x.s.fill.toNat : Int), .bool x.s.short, .slice x.ka x.kn x.kc]] w (DzEnd (.tuple #[]) w0 w T d D A (N + 1) (othA rs x.s)) := by
  have hmx : Try.prog.follows .mixedOrders = true := by kernel_rfl
  have HH := Lib.hid h
  have hb0 : Below w.heap.size w (w.alloc (.cells x.cells 35)) := (Below.refl _ w).alloc (Nat.le_refl _) _
  obtain ⟨W, hW⟩ : ∃ W, w.alloc (.cells #[.int .i64 x.s.kind, .int .i64 x.s.region, .int .i64 x.s.page, .int .u8 (x.s.fill.toNat : Int), .bool x.s.short, .slice x.ka x.kn x.kc] 35) = W := ⟨_, rfl⟩
  have Z1 : Hid (Dz w0 W T d D A N rs) := Lib.hid (hW ▸ h.below hb0)
  have T1 : Hid (Tn T d w T W) := Lib.hid (hW ▸ Tn.below hb0 h.lo.lt)
  have X1 : Hid (Bk W T w.heap.size 35 x.cells) := Lib.hid (hW ▸ ⟨Has.made w 35 _, h.lo.un (Nat.le_refl _)⟩)
  obtain ⟨c0, c1, c2, c3, c4, c5⟩ := Sbox.of X1.out.has
  clear h hb0
  by_cases k0 : x.s.kind = 0
  · have e0 : (x.s.kind == 0) = true := by simpa using k0
    have HO : Hid (othA rs x.s = (wrA rs x.s.region x.s.page (pgB x.s)).1) := Lib.hid (by unfold othA; rw [if_pos k0])
    have Z2 : Hid (Dz w0 W.drew T d D A N rs) := Lib.hid Z1.out.drew
    have X2 : Hid (Bk W.drew T w.heap.size 35 x.cells) := Lib.hid ⟨X1.out.has, X1.out.un⟩
    have T2 : Hid (Tn T d w T W.drew) := Lib.hid (T1.out.trans (Tn.below ⟨rfl, rfl, rfl, Nat.le_refl _, fun _ _ => rfl⟩ Z1.out.lo.lt))
    have HP := Lib.hid (fun w1 => show Calls Try.prog 13 #[.agg #[.int .i64 x.s.kind, .int .i64 x.s.region, .int .i64 x.s.page, .int .u8 (x.s.fill.toNat : Int), .bool x.s.short, .slice x.ka x.kn x.kc]] w1 (PgEnd (pgB x.s) w1) from page_any x.s x.kv rfl w1)
    have hS : (fun w' : World => Sbox w' w.heap.size x) W.drew := Sbox.of X2.out.has
    clear k0
    go_enter Try.func28, Try.ntmps28
    go_wp2
    refine wp_heldHQ (fun w' : World => Sbox w' w.heap.size x) hmx ?_
    refine wpAnyH_take (i := 0) (v := .pointer (some ⟨D, 0, none⟩)) rfl (by kernel_rfl) (by kernel_rfl) (by kernel_rfl) (fun _ _ _ h => h) (Or.inl ⟨by rfl, ?_⟩) hS ?_
    · rintro w6 ⟨c0, c1, c2, c3, c4, c5⟩
      go_simp
    simp only [Act.put, List.setIfInBounds_toArray, List.set_cons_zero, List.set_cons_succ, List.getElem_toArray, List.getElem_cons_zero]
    refine wpAnyH_take (i := 1) (v := .pointer (some ⟨w.heap.size, 1, none⟩)) rfl (by kernel_rfl) (by kernel_rfl) (by kernel_rfl) (fun _ _ _ h => h) (Or.inl ⟨by rfl, ?_⟩) hS ?_
    · rintro w6 ⟨c0, c1, c2, c3, c4, c5⟩
      go_simp
    simp only [Act.put, List.setIfInBounds_toArray, List.set_cons_zero, List.set_cons_succ, List.getElem_toArray, List.getElem_cons_zero, List.getElem_cons_succ]
    refine wpAnyH_take (i := 2) (v := .int .i64 x.s.region) rfl (by kernel_rfl) (by kernel_rfl) (by kernel_rfl) (fun _ _ _ h => h) (Or.inl ⟨by rfl, ?_⟩) hS ?_
    · rintro w6 ⟨c0, c1, c2, c3, c4, c5⟩
      go_simp
    simp only [Act.put, List.setIfInBounds_toArray, List.set_cons_zero, List.set_cons_succ, List.getElem_toArray, List.getElem_cons_zero, List.getElem_cons_succ]
    refine wpAnyH_take (i := 3) (v := .pointer (some ⟨w.heap.size, 2, none⟩)) rfl (by kernel_rfl) (by kernel_rfl) (by kernel_rfl) (fun _ _ _ h => h) (Or.inl ⟨by rfl, ?_⟩) hS ?_
    · rintro w6 ⟨c0, c1, c2, c3, c4, c5⟩
      go_simp
    simp only [Act.put, List.setIfInBounds_toArray, List.set_cons_zero, List.set_cons_succ, List.getElem_toArray, List.getElem_cons_zero, List.getElem_cons_succ]
    refine wpAnyH_take (i := 4) (v := .int .i64 x.s.page) rfl (by kernel_rfl) (by kernel_rfl) (by kernel_rfl) (fun _ _ _ h => h) (Or.inl ⟨by rfl, ?_⟩) hS ?_
    · rintro w6 ⟨c0, c1, c2, c3, c4, c5⟩
      go_simp
    simp only [Act.put, List.setIfInBounds_toArray, List.set_cons_zero, List.set_cons_succ, List.getElem_toArray, List.getElem_cons_zero, List.getElem_cons_succ]
    refine wpAnyH_take (i := 5) (v := .agg #[.int .i64 x.s.kind, .int .i64 x.s.region, .int .i64 x.s.page, .int .u8 (x.s.fill.toNat : Int), .bool x.s.short, .slice x.ka x.kn x.kc]) rfl (by kernel_rfl) (by kernel_rfl) (by kernel_rfl) (fun _ _ _ h => h) (Or.inl ⟨by rfl, ?_⟩) hS ?_
    · rintro w6 ⟨c0, c1, c2, c3, c4, c5⟩
      go_simp
    simp only [Act.put, List.setIfInBounds_toArray, List.set_cons_zero, List.set_cons_succ, List.getElem_toArray, List.getElem_cons_zero, List.getElem_cons_succ]
    refine wpAnyH_ready (rs := [6]) (by kernel_rfl) (by simp) ?_
    refine AllReadyH.cons rfl (fun K5 hK5 => ?_) AllReadyH.nil
    go_simp
    go_at_call 13
    (with_reducible refine (HP.out _).mono ?_)
    rintro e w3 ⟨g3, rfl, h2, h3, h4⟩
    have Z3 := Lib.hid (Z2.out.below h4)
    have K3 : Hid (Bk w3 T g3 5 _) := Lib.hid ⟨h3, Z2.out.lo.un h2⟩
    have X3 := Lib.hid (X2.out.below h4)
    have T3 := Lib.hid (T2.out.trans (Tn.below h4 Z2.out.lo.lt))
    clear h2 h3 h4
    have hS1 : (fun w' : World => Sbox w' w.heap.size x) w3 := Sbox.of X3.out.has
    refine hK5.out _ _ hS1 (fun _ => ?_)
    clear hK5 K5
    refine wpAnyH_ready (rs := [7]) (by kernel_rfl) (by simp) ?_
    refine AllReadyH.cons rfl (fun K5 hK5 => ?_) AllReadyH.nil
    go_simp
    go_at_call 12
    have hq := Write_z x.s.region x.s.page (pgB x.s) g3 Z3.out hN K3.out
    (with_reducible refine hq.mono ?_)
    clear hq
    rintro e w4 ⟨rfl, T4, h1, h2⟩
    have Z4 := Lib.hid h1
    have T34 := Lib.hid h2
    have X4 := Lib.hid (X3.out.tn h2)
    clear h1 h2
    have hS2 : (fun w' : World => Sbox w' w.heap.size x) w4 := Sbox.of X4.out.has
    refine hK5.out _ _ hS2 (fun _ => ?_)
    clear hK5 K5
    refine wpAnyH_done (by kernel_rfl) ?_ _
    go_end0
    exact ⟨rfl, T4, by rw [HO.out]; exact Z4.out, T3.out.trans T34.out⟩
  · have e0 : (x.s.kind == 0) = false := by simpa using k0
    by_cases k1 : x.s.kind = 1
    · have e1 : (x.s.kind == 1) = true := by simpa using k1
      have HO : Hid (othA rs x.s = (syA rs x.s.region).1) := Lib.hid (by unfold othA; rw [if_neg k0, if_pos k1])
      clear k0 k1
      go_enter Try.func28, Try.ntmps28
      go_wp2_with (go_at_call 15; have hq := Sync_z x.s.region Z1.out (by omega); (with_reducible refine hq.mono ?_); clear hq; rintro e w4 ⟨rfl, T4, h1, h2⟩; have Z4 := Lib.hid h1; have T34 := Lib.hid h2; clear h1 h2)
      go_end0
      exact ⟨rfl, T4, by rw [HO.out]; exact Z4.out.more (by omega), T1.out.trans T34.out⟩
    · have e1 : (x.s.kind == 1) = false := by simpa using k1
      by_cases k2 : x.s.kind = 2
      · have e2 : (x.s.kind == 2) = true := by simpa using k2
        have HO : Hid (othA rs x.s = stA rs x.s.region x.s.page) := Lib.hid (by unfold othA; rw [if_neg k0, if_neg k1, if_pos k2])
        have HPg := Lib.hid hp
        clear k0 k1 k2 hp
        go_enter Try.func28, Try.ntmps28
        go_wp2_with (go_at_call 17; have hq := Stop_z x.s.region x.s.page Z1.out HPg.out; (with_reducible refine hq.mono ?_); clear hq; rintro e w4 ⟨rfl, T4, h1, h2⟩; have Z4 := Lib.hid h1; have T34 := Lib.hid h2; clear h1 h2)
        go_end0
        exact ⟨rfl, T4, by rw [HO.out]; exact Z4.out.more (by omega), T1.out.trans T34.out⟩
      · have e2 : (x.s.kind == 2) = false := by simpa using k2
        have HO : Hid (othA rs x.s = rs) := Lib.hid (by unfold othA; rw [if_neg k0, if_neg k1, if_neg k2])
        clear k0 k1 k2
        go_enter Try.func28, Try.ntmps28
        go_wp2
        go_end0
        exact ⟨rfl, T, by rw [HO.out]; exact Z1.out.more (by omega), T1.out⟩
end

end Go.Proofs.Ythbchloghbfnmaa
