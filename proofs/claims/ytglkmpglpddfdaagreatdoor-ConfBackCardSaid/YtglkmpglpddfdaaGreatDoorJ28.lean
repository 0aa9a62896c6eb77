import Derived.Test.YtglkmpglpddfdaaGreatDoorJCpru
import Derived.Test.YtglkmpglpddfdaaGreatDoorJLatq
import Derived.Laws.Bits64b
import Derived.Test.YtglkmpglpddfdaaGreatDoorJ13
import Derived.Test.YtglkmpglpddfdaaGreatDoorJ07
import Derived.Test.YtglkmpglpddfdaaGreatDoorJ20
/- Of a claim's texts, joined: Cprg Linm Cpw. No statement but in the last. -/
section
namespace Go.Proofs.YtglkmpglpddfdaaGreatDoor
open Go.RowKit
set_option linter.unusedVariables false

set_option maxRecDepth 100000 in
set_option maxHeartbeats 4000000 in
theorem line_u_good {base P ln en : Nat} {c : Cf} {x0 x y : We} (w : World) (h : PK w base P c ln (x0 :: x :: [y]) en) (hb : base ≤ w.heap.size) (hbg : ∀ w', Below base w w' → Base5 w') (hn : c.names.length ≤ 64) (hk : x0.1 = undT) (hx : ¬ findN c.names x.1 < 0) (hy : ¬ findN c.names y.1 < 0) (hup : c.up.length = c.names.length) (hbig : ∀ u ∈ c.up, u < 2 ^ 64) :
    Calls Tryz.prog 48 #[.pointer (some ⟨P, 0, none⟩)] w (DoneEnd base P ln (orUp c (findN c.names x.1) (findN c.names y.1)) w) := by
  have HT := Lib.hid (take_cons w h hb)
  obtain ⟨t, a, b⟩ := x0
  simp only at hk
  subst hk
  unfold undT at HT
  have HK2 := Lib.hid (fun w1 h1 h2 => known_good (base := base) (P := P) (ln := ln) (en := b) (c := c) (x := x) (l := (y :: [])) w1 h1 h2 (by omega) hx)
  obtain ⟨i, ei, li⟩ := find_nat hx
  rw [ei] at HK2
  have HK3 := Lib.hid (fun w1 h1 h2 => known_good (base := base) (P := P) (ln := ln) (en := x.2.2) (c := c) (x := y) (l := ([])) w1 h1 h2 (by omega) hy)
  obtain ⟨j, ej, lj⟩ := find_nat hy
  rw [ej] at HK3
  have hmx : Tryz.prog.follows .mixedOrders = true := by kernel_rfl
  have hsh := wrap_pow j (by omega)
  have hin : i < c.up.length := by omega
  have hxu := hbig _ (List.getElem_mem hin)
  obtain ⟨x0u, hx0u⟩ : ∃ x0u, c.up[i] = x0u := ⟨_, rfl⟩
  have hor : bits BinOp.or IntKind.u64 (x0u : Int) (2 ^ j) = ((x0u ||| 2 ^ j : Nat) : Int) := by
    have := u64_or_nat x0u (2 ^ j) (by omega) (by have := Nat.pow_lt_pow_right (a := 2) (by omega) (show j < 64 by omega); omega)
    simpa using this
  have HX0 := Lib.hid hx0u
  have HOr : Hid (orUp c (findN c.names x.1) (findN c.names y.1) = { c with up := c.up.set i (x0u ||| 2 ^ j) }) := Lib.hid (by
    unfold orUp
    rw [ei, ej]
    simp only [Int.toNat_natCast]
    rw [getD_at _ _ hin, hx0u])
  have i1 : (0 : Int) ≤ (i : Int) := by omega
  have i2 : (i : Int) < (c.up.length : Int) := by omega
  clear h hbg
  go_enter Tryz.func48, Tryz.ntmps48
  go_wp2_with (first | (go_at_call 81; (with_reducible refine (HK3.out _ P2.out S2.out).mono ?_); rintro e w3 ⟨rfl, h1, h2⟩; have B3 := Lib.hid (B2.out.trans h2); have P3 := Lib.hid h1; have S3 := Lib.hid (Nat.le_trans hb B3.out.size); clear h1 h2) | (go_at_call 81; (with_reducible refine (HK2.out _ P1.out S1.out).mono ?_); rintro e w2 ⟨rfl, h1, h2⟩; have B2 := Lib.hid (B1.out.trans h2); have P2 := Lib.hid h1; have S2 := Lib.hid (Nat.le_trans hb B2.out.size); clear h1 h2) | (go_at_call 79; (with_reducible refine HT.out.mono ?_); rintro e w1 ⟨rfl, h1, h2, hg1⟩; have B1 := Lib.hid (h2.alloc (Nat.le_trans hb h2.size) (.cells #[.string ⟨([117, 110, 100, 101, 114] : List UInt8).toArray⟩, .int .i64 (a : Int), .int .i64 (b : Int)] 119)); have P1 := Lib.hid (h1.below ((Below.refl _ w1).alloc (Nat.le_refl _) (.cells #[.string ⟨([117, 110, 100, 101, 114] : List UInt8).toArray⟩, .int .i64 (a : Int), .int .i64 (b : Int)] 119))); have S1 := Lib.hid (Nat.le_trans hb B1.out.size); have c4 := pk_line P1.out; clear h1 h2 hg1))
  obtain ⟨vn, vu, vq, vg, A, n, k, hx3⟩ := P3.out
  obtain ⟨g, uk, rfl, huk, gc, hbgg, gf⟩ := argU_own5 hx3.2.2.2.1 hin
  rw [HX0.out] at gc
  have hC : (fun w' : World => w'.cell? ⟨P, 1, none⟩ = some (.slice (some ⟨g, 0, none⟩) c.up.length uk) ∧ w'.cell? ⟨g, i, none⟩ = some (.int .u64 (x0u : Int))) w3.drew := ⟨by show w3.cell? _ = _; rw [hx3.1.cell]; simp, gc⟩
  have gfd : w3.drew.frozen? ⟨g, i, none⟩ = false := gf
  rename_i K hK
  refine wp_heldQ (fun w' : World => w'.cell? ⟨P, 1, none⟩ = some (.slice (some ⟨g, 0, none⟩) c.up.length uk) ∧ w'.cell? ⟨g, i, none⟩ = some (.int .u64 (x0u : Int))) 12 hmx ?_
  refine wpAnyK_pure (i := 0) (v := .pointer (some ⟨P, 0, none⟩)) rfl (by kernel_rfl) (by kernel_rfl) (by kernel_rfl) (by decide) (fun _ _ _ h => h) (Or.inl ⟨by rfl, ?_⟩) (.inr hC) ?_
  · intro w6 _
    go_simp
  simp only [Act.put, List.setIfInBounds_toArray, List.set_cons_zero, List.set_cons_succ, List.getElem_toArray, List.getElem_cons_zero]
  refine wpAnyK_pure (i := 1) (v := .pointer (some ⟨P, 0, none⟩)) rfl (by kernel_rfl) (by kernel_rfl) (by kernel_rfl) (by decide) (fun _ _ _ h => h) (Or.inl ⟨by rfl, ?_⟩) (.inr hC) ?_
  · intro w6 _
    go_simp
  simp only [Act.put, List.setIfInBounds_toArray, List.set_cons_zero, List.set_cons_succ, List.getElem_toArray, List.getElem_cons_zero, List.getElem_cons_succ]
  refine wpAnyK_pure (i := 2) (v := .pointer (some ⟨P, 0, none⟩)) rfl (by kernel_rfl) (by kernel_rfl) (by kernel_rfl) (by decide) (fun _ _ _ h => h) (Or.inl ⟨by rfl, ?_⟩) (.inr hC) ?_
  · intro w6 _
    go_simp
  simp only [Act.put, List.setIfInBounds_toArray, List.set_cons_zero, List.set_cons_succ, List.getElem_toArray, List.getElem_cons_zero, List.getElem_cons_succ]
  refine wpAnyK_pure (i := 3) (v := .pointer (some ⟨P, 1, none⟩)) rfl (by kernel_rfl) (by kernel_rfl) (by kernel_rfl) (by decide) (fun _ _ _ h => h) (Or.inl ⟨by rfl, ?_⟩) (.inr hC) ?_
  · intro w6 _
    go_simp
  simp only [Act.put, List.setIfInBounds_toArray, List.set_cons_zero, List.set_cons_succ, List.getElem_toArray, List.getElem_cons_zero, List.getElem_cons_succ]
  refine wpAnyK_take (i := 4) (v := .slice (some ⟨g, 0, none⟩) c.up.length uk) rfl (by kernel_rfl) (by kernel_rfl) (by kernel_rfl) (by kernel_rfl) (by decide) (by kernel_rfl) (fun _ _ _ h => h) (Or.inl ⟨by rfl, ?_⟩) hC ?_
  · rintro w6 ⟨c1, c2⟩
    go_simp
  simp only [Act.put, List.setIfInBounds_toArray, List.set_cons_zero, List.set_cons_succ, List.getElem_toArray, List.getElem_cons_zero, List.getElem_cons_succ]
  refine wpAnyK_pure (i := 5) (v := .int .i64 (i : Int)) rfl (by kernel_rfl) (by kernel_rfl) (by kernel_rfl) (by decide) (fun _ _ _ h => h) (Or.inl ⟨by rfl, ?_⟩) (.inr hC) ?_
  · intro w6 _
    go_simp
  simp only [Act.put, List.setIfInBounds_toArray, List.set_cons_zero, List.set_cons_succ, List.getElem_toArray, List.getElem_cons_zero, List.getElem_cons_succ]
  refine wpAnyK_pure (i := 6) (v := .pointer (some ⟨g, i, none⟩)) rfl (by kernel_rfl) (by kernel_rfl) (by kernel_rfl) (by decide) (fun _ _ _ h => h) (Or.inl ⟨by rfl, ?_⟩) (.inr hC) ?_
  · intro w6 _
    go_simp
  simp only [Act.put, List.setIfInBounds_toArray, List.set_cons_zero, List.set_cons_succ, List.getElem_toArray, List.getElem_cons_zero, List.getElem_cons_succ]
  refine wpAnyK_take (i := 7) (v := .int .u64 (x0u : Int)) rfl (by kernel_rfl) (by kernel_rfl) (by kernel_rfl) (by kernel_rfl) (by decide) (by kernel_rfl) (fun _ _ _ h => h) (Or.inl ⟨by rfl, ?_⟩) hC ?_
  · rintro w6 ⟨c1, c2⟩
    go_simp
  simp only [Act.put, List.setIfInBounds_toArray, List.set_cons_zero, List.set_cons_succ, List.getElem_toArray, List.getElem_cons_zero, List.getElem_cons_succ]
  refine wpAnyK_pure (i := 8) (v := .int .i64 (j : Int)) rfl (by kernel_rfl) (by kernel_rfl) (by kernel_rfl) (by decide) (fun _ _ _ h => h) (Or.inl ⟨by rfl, ?_⟩) (.inr hC) ?_
  · intro w6 _
    go_simp
  simp only [Act.put, List.setIfInBounds_toArray, List.set_cons_zero, List.set_cons_succ, List.getElem_toArray, List.getElem_cons_zero, List.getElem_cons_succ]
  refine wpAnyK_pure (i := 9) (v := .int .u64 ((2 ^ j : Nat) : Int)) rfl (by kernel_rfl) (by kernel_rfl) (by kernel_rfl) (by decide) (fun _ _ _ h => h) (Or.inl ⟨by rfl, ?_⟩) (.inr hC) ?_
  · intro w6 _
    go_simp
  simp only [Act.put, List.setIfInBounds_toArray, List.set_cons_zero, List.set_cons_succ, List.getElem_toArray, List.getElem_cons_zero, List.getElem_cons_succ]
  refine wpAnyK_pure (i := 10) (v := .int .u64 ((x0u ||| 2 ^ j : Nat) : Int)) rfl (by kernel_rfl) (by kernel_rfl) (by kernel_rfl) (by decide) (fun _ _ _ h => h) (Or.inl ⟨by rfl, ?_⟩) (.inr hC) ?_
  · intro w6 _
    go_simp
  simp only [Act.put, List.setIfInBounds_toArray, List.set_cons_zero, List.set_cons_succ, List.getElem_toArray, List.getElem_cons_zero, List.getElem_cons_succ]
  refine wpAnyK_pure (i := 11) (v := .pointer (some ⟨g, i, none⟩)) rfl (by kernel_rfl) (by kernel_rfl) (by kernel_rfl) (by decide) (fun _ _ _ h => h) (Or.inl ⟨by rfl, ?_⟩) (.inr hC) ?_
  · intro w6 _
    go_simp
  simp only [Act.put, List.setIfInBounds_toArray, List.set_cons_zero, List.set_cons_succ, List.getElem_toArray, List.getElem_cons_zero, List.getElem_cons_succ]
  refine wpAnyK_one (i := 12) (by kernel_rfl) rfl (fun K5 hK5 => ?_)
  go_simp
  have cg := hC.2
  refine hK5.out _ _ (.inl (by kernel_rfl)) ?_
  clear hK5 K5
  refine wpAnyK_done (by kernel_rfl) ?_ _
  refine hK _ _ ?_
  clear hK K
  obtain ⟨V4, hV4⟩ : ∃ V4, w3.setCell ⟨g, i, none⟩ (.int .u64 ((x0u ||| 2 ^ j : Nat) : Int)) = V4 := ⟨_, rfl⟩
  have X4 := (hx3.setU (i := i) (x := x0u ||| 2 ^ j)).1
  have B4 := Lib.hid (B3.out.setCell (p := ⟨g, i, none⟩) hbgg (.int .u64 ((x0u ||| 2 ^ j : Nat) : Int)))
  rw [hV4] at X4 B4
  have X4' : PK V4 base P { c with up := c.up.set i (x0u ||| 2 ^ j) } ln ([]) y.2.2 := ⟨_, _, _, _, _, _, _, X4⟩
  have P4 := Lib.hid X4'
  have S4 := Lib.hid (Nat.le_trans hb B4.out.size)
  clear c4
  have c4 := pk_line P4.out
  obtain ⟨A5, n5, k5, c5, hn5, hx5⟩ := pk_left P4.out
  subst hn5
  clear hx5 X4 X4' hC gc gf gfd hx3
  go_wp2
  refine bodyPost_end (results_none rfl _ _ _) rfl ?_
  exact ⟨rfl, ⟨_, HOr.out ▸ P4.out.below (Below.refl _ _).drew⟩, B4.out.drew⟩
set_option maxRecDepth 100000 in
set_option maxHeartbeats 4000000 in
theorem line_u_more {base P ln en : Nat} {c : Cf} {x0 x y z : We} {l : List We} (w : World) (h : PK w base P c ln (x0 :: x :: y :: z :: l) en) (hb : base ≤ w.heap.size) (hbg : ∀ w', Below base w w' → Base5 w') (hn : c.names.length ≤ 64) (hk : x0.1 = undT) (hx : ¬ findN c.names x.1 < 0) (hy : ¬ findN c.names y.1 < 0) (hup : c.up.length = c.names.length) (hbig : ∀ u ∈ c.up, u < 2 ^ 64) :
    Calls Tryz.prog 48 #[.pointer (some ⟨P, 0, none⟩)] w (FailEnd ln z.2.1 base w) := by
  have HT := Lib.hid (take_cons w h hb)
  obtain ⟨t, a, b⟩ := x0
  simp only at hk
  subst hk
  unfold undT at HT
  have HK2 := Lib.hid (fun w1 h1 h2 => known_good (base := base) (P := P) (ln := ln) (en := b) (c := c) (x := x) (l := (y :: z :: l)) w1 h1 h2 (by omega) hx)
  obtain ⟨i, ei, li⟩ := find_nat hx
  rw [ei] at HK2
  have HK3 := Lib.hid (fun w1 h1 h2 => known_good (base := base) (P := P) (ln := ln) (en := x.2.2) (c := c) (x := y) (l := (z :: l)) w1 h1 h2 (by omega) hy)
  obtain ⟨j, ej, lj⟩ := find_nat hy
  rw [ej] at HK3
  have hmx : Tryz.prog.follows .mixedOrders = true := by kernel_rfl
  have hsh := wrap_pow j (by omega)
  have hin : i < c.up.length := by omega
  have hxu := hbig _ (List.getElem_mem hin)
  obtain ⟨x0u, hx0u⟩ : ∃ x0u, c.up[i] = x0u := ⟨_, rfl⟩
  have hor : bits BinOp.or IntKind.u64 (x0u : Int) (2 ^ j) = ((x0u ||| 2 ^ j : Nat) : Int) := by
    have := u64_or_nat x0u (2 ^ j) (by omega) (by have := Nat.pow_lt_pow_right (a := 2) (by omega) (show j < 64 by omega); omega)
    simpa using this
  have HX0 := Lib.hid hx0u
  have HOr : Hid (orUp c (findN c.names x.1) (findN c.names y.1) = { c with up := c.up.set i (x0u ||| 2 ^ j) }) := Lib.hid (by
    unfold orUp
    rw [ei, ej]
    simp only [Int.toNat_natCast]
    rw [getD_at _ _ hin, hx0u])
  have i1 : (0 : Int) ≤ (i : Int) := by omega
  have i2 : (i : Int) < (c.up.length : Int) := by omega
  clear h hbg
  go_enter Tryz.func48, Tryz.ntmps48
  go_wp2_with (first | (go_at_call 81; (with_reducible refine (HK3.out _ P2.out S2.out).mono ?_); rintro e w3 ⟨rfl, h1, h2⟩; have B3 := Lib.hid (B2.out.trans h2); have P3 := Lib.hid h1; have S3 := Lib.hid (Nat.le_trans hb B3.out.size); clear h1 h2) | (go_at_call 81; (with_reducible refine (HK2.out _ P1.out S1.out).mono ?_); rintro e w2 ⟨rfl, h1, h2⟩; have B2 := Lib.hid (B1.out.trans h2); have P2 := Lib.hid h1; have S2 := Lib.hid (Nat.le_trans hb B2.out.size); clear h1 h2) | (go_at_call 79; (with_reducible refine HT.out.mono ?_); rintro e w1 ⟨rfl, h1, h2, hg1⟩; have B1 := Lib.hid (h2.alloc (Nat.le_trans hb h2.size) (.cells #[.string ⟨([117, 110, 100, 101, 114] : List UInt8).toArray⟩, .int .i64 (a : Int), .int .i64 (b : Int)] 119)); have P1 := Lib.hid (h1.below ((Below.refl _ w1).alloc (Nat.le_refl _) (.cells #[.string ⟨([117, 110, 100, 101, 114] : List UInt8).toArray⟩, .int .i64 (a : Int), .int .i64 (b : Int)] 119))); have S1 := Lib.hid (Nat.le_trans hb B1.out.size); have c4 := pk_line P1.out; clear h1 h2 hg1))
  obtain ⟨vn, vu, vq, vg, A, n, k, hx3⟩ := P3.out
  obtain ⟨g, uk, rfl, huk, gc, hbgg, gf⟩ := argU_own5 hx3.2.2.2.1 hin
  rw [HX0.out] at gc
  have hC : (fun w' : World => w'.cell? ⟨P, 1, none⟩ = some (.slice (some ⟨g, 0, none⟩) c.up.length uk) ∧ w'.cell? ⟨g, i, none⟩ = some (.int .u64 (x0u : Int))) w3.drew := ⟨by show w3.cell? _ = _; rw [hx3.1.cell]; simp, gc⟩
  have gfd : w3.drew.frozen? ⟨g, i, none⟩ = false := gf
  rename_i K hK
  refine wp_heldQ (fun w' : World => w'.cell? ⟨P, 1, none⟩ = some (.slice (some ⟨g, 0, none⟩) c.up.length uk) ∧ w'.cell? ⟨g, i, none⟩ = some (.int .u64 (x0u : Int))) 12 hmx ?_
  refine wpAnyK_pure (i := 0) (v := .pointer (some ⟨P, 0, none⟩)) rfl (by kernel_rfl) (by kernel_rfl) (by kernel_rfl) (by decide) (fun _ _ _ h => h) (Or.inl ⟨by rfl, ?_⟩) (.inr hC) ?_
  · intro w6 _
    go_simp
  simp only [Act.put, List.setIfInBounds_toArray, List.set_cons_zero, List.set_cons_succ, List.getElem_toArray, List.getElem_cons_zero]
  refine wpAnyK_pure (i := 1) (v := .pointer (some ⟨P, 0, none⟩)) rfl (by kernel_rfl) (by kernel_rfl) (by kernel_rfl) (by decide) (fun _ _ _ h => h) (Or.inl ⟨by rfl, ?_⟩) (.inr hC) ?_
  · intro w6 _
    go_simp
  simp only [Act.put, List.setIfInBounds_toArray, List.set_cons_zero, List.set_cons_succ, List.getElem_toArray, List.getElem_cons_zero, List.getElem_cons_succ]
  refine wpAnyK_pure (i := 2) (v := .pointer (some ⟨P, 0, none⟩)) rfl (by kernel_rfl) (by kernel_rfl) (by kernel_rfl) (by decide) (fun _ _ _ h => h) (Or.inl ⟨by rfl, ?_⟩) (.inr hC) ?_
  · intro w6 _
    go_simp
  simp only [Act.put, List.setIfInBounds_toArray, List.set_cons_zero, List.set_cons_succ, List.getElem_toArray, List.getElem_cons_zero, List.getElem_cons_succ]
  refine wpAnyK_pure (i := 3) (v := .pointer (some ⟨P, 1, none⟩)) rfl (by kernel_rfl) (by kernel_rfl) (by kernel_rfl) (by decide) (fun _ _ _ h => h) (Or.inl ⟨by rfl, ?_⟩) (.inr hC) ?_
  · intro w6 _
    go_simp
  simp only [Act.put, List.setIfInBounds_toArray, List.set_cons_zero, List.set_cons_succ, List.getElem_toArray, List.getElem_cons_zero, List.getElem_cons_succ]
  refine wpAnyK_take (i := 4) (v := .slice (some ⟨g, 0, none⟩) c.up.length uk) rfl (by kernel_rfl) (by kernel_rfl) (by kernel_rfl) (by kernel_rfl) (by decide) (by kernel_rfl) (fun _ _ _ h => h) (Or.inl ⟨by rfl, ?_⟩) hC ?_
  · rintro w6 ⟨c1, c2⟩
    go_simp
  simp only [Act.put, List.setIfInBounds_toArray, List.set_cons_zero, List.set_cons_succ, List.getElem_toArray, List.getElem_cons_zero, List.getElem_cons_succ]
  refine wpAnyK_pure (i := 5) (v := .int .i64 (i : Int)) rfl (by kernel_rfl) (by kernel_rfl) (by kernel_rfl) (by decide) (fun _ _ _ h => h) (Or.inl ⟨by rfl, ?_⟩) (.inr hC) ?_
  · intro w6 _
    go_simp
  simp only [Act.put, List.setIfInBounds_toArray, List.set_cons_zero, List.set_cons_succ, List.getElem_toArray, List.getElem_cons_zero, List.getElem_cons_succ]
  refine wpAnyK_pure (i := 6) (v := .pointer (some ⟨g, i, none⟩)) rfl (by kernel_rfl) (by kernel_rfl) (by kernel_rfl) (by decide) (fun _ _ _ h => h) (Or.inl ⟨by rfl, ?_⟩) (.inr hC) ?_
  · intro w6 _
    go_simp
  simp only [Act.put, List.setIfInBounds_toArray, List.set_cons_zero, List.set_cons_succ, List.getElem_toArray, List.getElem_cons_zero, List.getElem_cons_succ]
  refine wpAnyK_take (i := 7) (v := .int .u64 (x0u : Int)) rfl (by kernel_rfl) (by kernel_rfl) (by kernel_rfl) (by kernel_rfl) (by decide) (by kernel_rfl) (fun _ _ _ h => h) (Or.inl ⟨by rfl, ?_⟩) hC ?_
  · rintro w6 ⟨c1, c2⟩
    go_simp
  simp only [Act.put, List.setIfInBounds_toArray, List.set_cons_zero, List.set_cons_succ, List.getElem_toArray, List.getElem_cons_zero, List.getElem_cons_succ]
  refine wpAnyK_pure (i := 8) (v := .int .i64 (j : Int)) rfl (by kernel_rfl) (by kernel_rfl) (by kernel_rfl) (by decide) (fun _ _ _ h => h) (Or.inl ⟨by rfl, ?_⟩) (.inr hC) ?_
  · intro w6 _
    go_simp
  simp only [Act.put, List.setIfInBounds_toArray, List.set_cons_zero, List.set_cons_succ, List.getElem_toArray, List.getElem_cons_zero, List.getElem_cons_succ]
  refine wpAnyK_pure (i := 9) (v := .int .u64 ((2 ^ j : Nat) : Int)) rfl (by kernel_rfl) (by kernel_rfl) (by kernel_rfl) (by decide) (fun _ _ _ h => h) (Or.inl ⟨by rfl, ?_⟩) (.inr hC) ?_
  · intro w6 _
    go_simp
  simp only [Act.put, List.setIfInBounds_toArray, List.set_cons_zero, List.set_cons_succ, List.getElem_toArray, List.getElem_cons_zero, List.getElem_cons_succ]
  refine wpAnyK_pure (i := 10) (v := .int .u64 ((x0u ||| 2 ^ j : Nat) : Int)) rfl (by kernel_rfl) (by kernel_rfl) (by kernel_rfl) (by decide) (fun _ _ _ h => h) (Or.inl ⟨by rfl, ?_⟩) (.inr hC) ?_
  · intro w6 _
    go_simp
  simp only [Act.put, List.setIfInBounds_toArray, List.set_cons_zero, List.set_cons_succ, List.getElem_toArray, List.getElem_cons_zero, List.getElem_cons_succ]
  refine wpAnyK_pure (i := 11) (v := .pointer (some ⟨g, i, none⟩)) rfl (by kernel_rfl) (by kernel_rfl) (by kernel_rfl) (by decide) (fun _ _ _ h => h) (Or.inl ⟨by rfl, ?_⟩) (.inr hC) ?_
  · intro w6 _
    go_simp
  simp only [Act.put, List.setIfInBounds_toArray, List.set_cons_zero, List.set_cons_succ, List.getElem_toArray, List.getElem_cons_zero, List.getElem_cons_succ]
  refine wpAnyK_one (i := 12) (by kernel_rfl) rfl (fun K5 hK5 => ?_)
  go_simp
  have cg := hC.2
  refine hK5.out _ _ (.inl (by kernel_rfl)) ?_
  clear hK5 K5
  refine wpAnyK_done (by kernel_rfl) ?_ _
  refine hK _ _ ?_
  clear hK K
  obtain ⟨V4, hV4⟩ : ∃ V4, w3.setCell ⟨g, i, none⟩ (.int .u64 ((x0u ||| 2 ^ j : Nat) : Int)) = V4 := ⟨_, rfl⟩
  have X4 := (hx3.setU (i := i) (x := x0u ||| 2 ^ j)).1
  have B4 := Lib.hid (B3.out.setCell (p := ⟨g, i, none⟩) hbgg (.int .u64 ((x0u ||| 2 ^ j : Nat) : Int)))
  rw [hV4] at X4 B4
  have X4' : PK V4 base P { c with up := c.up.set i (x0u ||| 2 ^ j) } ln (z :: l) y.2.2 := ⟨_, _, _, _, _, _, _, X4⟩
  have P4 := Lib.hid X4'
  have S4 := Lib.hid (Nat.le_trans hb B4.out.size)
  clear c4
  have c4 := pk_line P4.out
  obtain ⟨A5, n5, k5, c5, hn5, hx5⟩ := pk_left P4.out
  subst hn5
  obtain ⟨g5, o5, rfl, g51⟩ := hx5 _ _ rfl
  have HF5 := Lib.hid (fail_any P ln z.2.1 V4.drew c4)
  clear hx5 X4 X4' hC gc gf gfd hx3
  go_wp2_with (go_at_call 82; (first | (with_reducible refine HF5.out.mono ?_) | refine HF5.out.mono ?_); rintro e w5 ⟨rfl, h1⟩; have B5 := Lib.hid (B4.out.drew.trans (h1.mono S4.out)); clear h1)
  exact ⟨rfl, rfl, B5.out⟩
set_option maxRecDepth 100000 in
set_option maxHeartbeats 4000000 in
theorem line_g_good {base P ln en : Nat} {c : Cf} {x0 x y z : We} (w : World) (h : PK w base P c ln (x0 :: x :: y :: [z]) en) (hb : base ≤ w.heap.size) (hbg : ∀ w', Below base w w' → Base5 w') (hn : c.names.length ≤ 64) (hk : x0.1 = grnT) (hx : ¬ findN c.names x.1 < 0) (hy : ¬ findN c.names y.1 < 0) (hz : ¬ findN c.names z.1 < 0) (hgr : c.grants.length ≤ 600000) :
    Calls Tryz.prog 48 #[.pointer (some ⟨P, 0, none⟩)] w (DoneEnd base P ln (apG c ⟨findN c.names x.1, findN c.names y.1, findN c.names z.1⟩) w) := by
  have HT := Lib.hid (take_cons w h hb)
  obtain ⟨t, a, b⟩ := x0
  simp only at hk
  subst hk
  unfold grnT at HT
  have HK2 := Lib.hid (fun w1 h1 h2 => known_good (base := base) (P := P) (ln := ln) (en := b) (c := c) (x := x) (l := (y :: z :: [])) w1 h1 h2 (by omega) hx)
  obtain ⟨i, ei, li⟩ := find_nat hx
  rw [ei] at HK2
  have HK3 := Lib.hid (fun w1 h1 h2 => known_good (base := base) (P := P) (ln := ln) (en := x.2.2) (c := c) (x := y) (l := (z :: [])) w1 h1 h2 (by omega) hy)
  obtain ⟨j, ej, lj⟩ := find_nat hy
  rw [ej] at HK3
  have HK4 := Lib.hid (fun w1 h1 h2 => known_good (base := base) (P := P) (ln := ln) (en := y.2.2) (c := c) (x := z) (l := ([])) w1 h1 h2 (by omega) hz)
  obtain ⟨m, em, lm⟩ := find_nat hz
  rw [em] at HK4
  obtain ⟨k0, hk0, kz0, kz1, kz2⟩ := info_parts ginfo5
  have HAp : Hid (apG c ⟨findN c.names x.1, findN c.names y.1, findN c.names z.1⟩ = { c with grants := c.grants ++ [⟨(i : Int), (j : Int), (m : Int)⟩] }) := Lib.hid (by unfold apG; rw [ei, ej, em])
  clear h hbg
  go_enter Tryz.func48, Tryz.ntmps48
  go_wp2_with (first | (go_at_call 81; (with_reducible refine (HK4.out _ P3.out S3.out).mono ?_); rintro e w4 ⟨rfl, h1, h2⟩; have B4 := Lib.hid (B3.out.trans h2); have P4 := Lib.hid h1; have S4 := Lib.hid (Nat.le_trans hb B4.out.size); clear h1 h2; obtain ⟨vn, vu, vq, vg, A, n, k, hx4⟩ := P4.out; obtain ⟨gA, gk, hvg⟩ := own_sl hx4.2.2.2.2.2.1; subst hvg; have g3 : w4.cell? ⟨P, 3, none⟩ = some (.slice gA c.grants.length gk) := (by rw [hx4.1.cell]; simp); have hx3 := Lib.hid hx4; clear hx4) | (go_at_call 81; (with_reducible refine (HK3.out _ P2.out S2.out).mono ?_); rintro e w3 ⟨rfl, h1, h2⟩; have B3 := Lib.hid (B2.out.trans h2); have P3 := Lib.hid h1; have S3 := Lib.hid (Nat.le_trans hb B3.out.size); clear h1 h2) | (go_at_call 81; (with_reducible refine (HK2.out _ P1.out S1.out).mono ?_); rintro e w2 ⟨rfl, h1, h2⟩; have B2 := Lib.hid (B1.out.trans h2); have P2 := Lib.hid h1; have S2 := Lib.hid (Nat.le_trans hb B2.out.size); clear h1 h2) | (go_at_call 79; (with_reducible refine HT.out.mono ?_); rintro e w1 ⟨rfl, h1, h2, hg1⟩; have B1 := Lib.hid (h2.alloc (Nat.le_trans hb h2.size) (.cells #[.string ⟨([103, 114, 97, 110, 116] : List UInt8).toArray⟩, .int .i64 (a : Int), .int .i64 (b : Int)] 119)); have P1 := Lib.hid (h1.below ((Below.refl _ w1).alloc (Nat.le_refl _) (.cells #[.string ⟨([103, 114, 97, 110, 116] : List UInt8).toArray⟩, .int .i64 (a : Int), .int .i64 (b : Int)] 119))); have S1 := Lib.hid (Nat.le_trans hb B1.out.size); have c4 := pk_line P1.out; clear h1 h2 hg1) | (at_builtin; refine wpList_append_own _ rfl _ _ 26 rfl base 45 k0 (.agg #[.int .i64 0, .int .i64 0, .int .i64 0]) 3 24 Tryz.underlying26 hk0 kz0 kz1 kz2 rfl (by decide) _ c.grants.length _ rfl (hx3.out.below ((Below.refl _ w4).alloc (Nat.le_refl _) (.cells #[.int .i64 (i : Int), .int .i64 (j : Int), .int .i64 (m : Int)] 45))).2.2.2.2.2.1 ⟨w4.heap.size, 0, none⟩ 1 1 [.int .i64 (i : Int), .int .i64 (j : Int), .int .i64 (m : Int)] rfl rfl (cells3_new5 w4 _ _ _ _) (by intro u hu; simp at hu; rcases hu with rfl | rfl | rfl <;> rfl) (by unfold maxLen; omega) (by omega) (by have := S4.out; simp; omega) ?_; intro v7 w7 h7 h8 h9; obtain ⟨vA, vc, hv7⟩ := own_sl h7; subst hv7; have An := PKx.app3 (x := ⟨(i : Int), (j : Int), (m : Int)⟩) (hx3.out.below ((Below.refl _ w4).alloc (Nat.le_refl _) (.cells #[.int .i64 (i : Int), .int .i64 (j : Int), .int .i64 (m : Int)] 45))) h7 h8; have H9 := Lib.hid ((below_own5 (B4.out.alloc S4.out (.cells #[.int .i64 (i : Int), .int .i64 (j : Int), .int .i64 (m : Int)] 45)) h8 (hx3.out.below ((Below.refl _ w4).alloc (Nat.le_refl _) (.cells #[.int .i64 (i : Int), .int .i64 (j : Int), .int .i64 (m : Int)] 45))).2.2.2.2.2.1 (by have := S4.out; simp; omega)).setCell (p := ⟨P, 3, none⟩) An.1.2.1 (.slice vA (c.grants.length + 1) vc)); have AX := Lib.hid An.1; have cq : w7.cell? ⟨P, 3, none⟩ = some (.slice gA c.grants.length gk) := (by rw [An.2.cell]; simp); have fq := An.2.free 3; obtain ⟨V7, hV7⟩ : ∃ V7, w7.setCell ⟨P, 3, none⟩ (.slice vA (c.grants.length + 1) vc) = V7 := ⟨_, rfl⟩; rw [hV7] at AX H9; clear h7 h8 h9 An; have P7 := Lib.hid (show PK V7 base P { c with grants := c.grants ++ [⟨(i : Int), (j : Int), (m : Int)⟩] } ln ([]) z.2.2 from ⟨_, _, _, _, _, _, _, AX.out⟩); have S7 := Lib.hid (Nat.le_trans hb H9.out.size); clear c4; have c4 := pk_line P7.out; obtain ⟨A5, n5, k5, c5, hn5, hx5⟩ := pk_left P7.out; subst hn5; clear hx5))
  refine bodyPost_end (results_none rfl _ _ _) rfl ?_
  exact ⟨rfl, ⟨_, HAp.out ▸ P7.out⟩, H9.out⟩
set_option maxRecDepth 100000 in
set_option maxHeartbeats 4000000 in
theorem line_g_more {base P ln en : Nat} {c : Cf} {x0 x y z w0 : We} {l : List We} (w : World) (h : PK w base P c ln (x0 :: x :: y :: z :: w0 :: l) en) (hb : base ≤ w.heap.size) (hbg : ∀ w', Below base w w' → Base5 w') (hn : c.names.length ≤ 64) (hk : x0.1 = grnT) (hx : ¬ findN c.names x.1 < 0) (hy : ¬ findN c.names y.1 < 0) (hz : ¬ findN c.names z.1 < 0) (hgr : c.grants.length ≤ 600000) :
    Calls Tryz.prog 48 #[.pointer (some ⟨P, 0, none⟩)] w (FailEnd ln w0.2.1 base w) := by
  have HT := Lib.hid (take_cons w h hb)
  obtain ⟨t, a, b⟩ := x0
  simp only at hk
  subst hk
  unfold grnT at HT
  have HK2 := Lib.hid (fun w1 h1 h2 => known_good (base := base) (P := P) (ln := ln) (en := b) (c := c) (x := x) (l := (y :: z :: w0 :: l)) w1 h1 h2 (by omega) hx)
  obtain ⟨i, ei, li⟩ := find_nat hx
  rw [ei] at HK2
  have HK3 := Lib.hid (fun w1 h1 h2 => known_good (base := base) (P := P) (ln := ln) (en := x.2.2) (c := c) (x := y) (l := (z :: w0 :: l)) w1 h1 h2 (by omega) hy)
  obtain ⟨j, ej, lj⟩ := find_nat hy
  rw [ej] at HK3
  have HK4 := Lib.hid (fun w1 h1 h2 => known_good (base := base) (P := P) (ln := ln) (en := y.2.2) (c := c) (x := z) (l := (w0 :: l)) w1 h1 h2 (by omega) hz)
  obtain ⟨m, em, lm⟩ := find_nat hz
  rw [em] at HK4
  obtain ⟨k0, hk0, kz0, kz1, kz2⟩ := info_parts ginfo5
  have HAp : Hid (apG c ⟨findN c.names x.1, findN c.names y.1, findN c.names z.1⟩ = { c with grants := c.grants ++ [⟨(i : Int), (j : Int), (m : Int)⟩] }) := Lib.hid (by unfold apG; rw [ei, ej, em])
  clear h hbg
  go_enter Tryz.func48, Tryz.ntmps48
  go_wp2_with (first | (go_at_call 81; (with_reducible refine (HK4.out _ P3.out S3.out).mono ?_); rintro e w4 ⟨rfl, h1, h2⟩; have B4 := Lib.hid (B3.out.trans h2); have P4 := Lib.hid h1; have S4 := Lib.hid (Nat.le_trans hb B4.out.size); clear h1 h2; obtain ⟨vn, vu, vq, vg, A, n, k, hx4⟩ := P4.out; obtain ⟨gA, gk, hvg⟩ := own_sl hx4.2.2.2.2.2.1; subst hvg; have g3 : w4.cell? ⟨P, 3, none⟩ = some (.slice gA c.grants.length gk) := (by rw [hx4.1.cell]; simp); have hx3 := Lib.hid hx4; clear hx4) | (go_at_call 81; (with_reducible refine (HK3.out _ P2.out S2.out).mono ?_); rintro e w3 ⟨rfl, h1, h2⟩; have B3 := Lib.hid (B2.out.trans h2); have P3 := Lib.hid h1; have S3 := Lib.hid (Nat.le_trans hb B3.out.size); clear h1 h2) | (go_at_call 81; (with_reducible refine (HK2.out _ P1.out S1.out).mono ?_); rintro e w2 ⟨rfl, h1, h2⟩; have B2 := Lib.hid (B1.out.trans h2); have P2 := Lib.hid h1; have S2 := Lib.hid (Nat.le_trans hb B2.out.size); clear h1 h2) | (go_at_call 79; (with_reducible refine HT.out.mono ?_); rintro e w1 ⟨rfl, h1, h2, hg1⟩; have B1 := Lib.hid (h2.alloc (Nat.le_trans hb h2.size) (.cells #[.string ⟨([103, 114, 97, 110, 116] : List UInt8).toArray⟩, .int .i64 (a : Int), .int .i64 (b : Int)] 119)); have P1 := Lib.hid (h1.below ((Below.refl _ w1).alloc (Nat.le_refl _) (.cells #[.string ⟨([103, 114, 97, 110, 116] : List UInt8).toArray⟩, .int .i64 (a : Int), .int .i64 (b : Int)] 119))); have S1 := Lib.hid (Nat.le_trans hb B1.out.size); have c4 := pk_line P1.out; clear h1 h2 hg1) | (at_builtin; refine wpList_append_own _ rfl _ _ 26 rfl base 45 k0 (.agg #[.int .i64 0, .int .i64 0, .int .i64 0]) 3 24 Tryz.underlying26 hk0 kz0 kz1 kz2 rfl (by decide) _ c.grants.length _ rfl (hx3.out.below ((Below.refl _ w4).alloc (Nat.le_refl _) (.cells #[.int .i64 (i : Int), .int .i64 (j : Int), .int .i64 (m : Int)] 45))).2.2.2.2.2.1 ⟨w4.heap.size, 0, none⟩ 1 1 [.int .i64 (i : Int), .int .i64 (j : Int), .int .i64 (m : Int)] rfl rfl (cells3_new5 w4 _ _ _ _) (by intro u hu; simp at hu; rcases hu with rfl | rfl | rfl <;> rfl) (by unfold maxLen; omega) (by omega) (by have := S4.out; simp; omega) ?_; intro v7 w7 h7 h8 h9; obtain ⟨vA, vc, hv7⟩ := own_sl h7; subst hv7; have An := PKx.app3 (x := ⟨(i : Int), (j : Int), (m : Int)⟩) (hx3.out.below ((Below.refl _ w4).alloc (Nat.le_refl _) (.cells #[.int .i64 (i : Int), .int .i64 (j : Int), .int .i64 (m : Int)] 45))) h7 h8; have H9 := Lib.hid ((below_own5 (B4.out.alloc S4.out (.cells #[.int .i64 (i : Int), .int .i64 (j : Int), .int .i64 (m : Int)] 45)) h8 (hx3.out.below ((Below.refl _ w4).alloc (Nat.le_refl _) (.cells #[.int .i64 (i : Int), .int .i64 (j : Int), .int .i64 (m : Int)] 45))).2.2.2.2.2.1 (by have := S4.out; simp; omega)).setCell (p := ⟨P, 3, none⟩) An.1.2.1 (.slice vA (c.grants.length + 1) vc)); have AX := Lib.hid An.1; have cq : w7.cell? ⟨P, 3, none⟩ = some (.slice gA c.grants.length gk) := (by rw [An.2.cell]; simp); have fq := An.2.free 3; obtain ⟨V7, hV7⟩ : ∃ V7, w7.setCell ⟨P, 3, none⟩ (.slice vA (c.grants.length + 1) vc) = V7 := ⟨_, rfl⟩; rw [hV7] at AX H9; clear h7 h8 h9 An; have P7 := Lib.hid (show PK V7 base P { c with grants := c.grants ++ [⟨(i : Int), (j : Int), (m : Int)⟩] } ln (w0 :: l) z.2.2 from ⟨_, _, _, _, _, _, _, AX.out⟩); have S7 := Lib.hid (Nat.le_trans hb H9.out.size); clear c4; have c4 := pk_line P7.out; obtain ⟨A5, n5, k5, c5, hn5, hx5⟩ := pk_left P7.out; subst hn5; obtain ⟨g5, o5, rfl, g51⟩ := hx5 _ _ rfl; clear hx5) | (go_at_call 82; (with_reducible refine (fail_any P ln w0.2.1 _ c4).mono ?_); rintro e w9 ⟨rfl, h1⟩; have B9 := Lib.hid (H9.out.trans (h1.mono S7.out)); clear h1))
  exact ⟨rfl, rfl, B9.out⟩

end Go.Proofs.YtglkmpglpddfdaaGreatDoor
end

section
namespace Go.Proofs.YtglkmpglpddfdaaGreatDoor
set_option linter.unusedVariables false

theorem decodeN_stop {n n' b0 b1 b2 b3 c1 c2 c3 : Nat} (h1 : (1 < n ∧ b1 / 64 = 2) ↔ (1 < n' ∧ c1 / 64 = 2)) (h2 : (1 < n ∧ b1 / 64 = 2) → ((2 < n ∧ b2 / 64 = 2) ↔ (2 < n' ∧ c2 / 64 = 2)) ∧ b1 = c1)
    (h3 : (1 < n ∧ b1 / 64 = 2) → (2 < n ∧ b2 / 64 = 2) → ((3 < n ∧ b3 / 64 = 2) ↔ (3 < n' ∧ c3 / 64 = 2)) ∧ b2 = c2) (h4 : (1 < n ∧ b1 / 64 = 2) → (2 < n ∧ b2 / 64 = 2) → (3 < n ∧ b3 / 64 = 2) → b3 = c3) :
    Lib.decodeN n b0 b1 b2 b3 = Lib.decodeN n' b0 c1 c2 c3 := by
  unfold Lib.decodeN
  by_cases a1 : 1 < n ∧ b1 / 64 = 2
  · obtain ⟨k2, e1⟩ := h2 a1
    have a1' := h1.1 a1
    by_cases a2 : 2 < n ∧ b2 / 64 = 2
    · obtain ⟨k3, e2⟩ := h3 a1 a2
      have a2' := k2.1 a2
      by_cases a3 : 3 < n ∧ b3 / 64 = 2
      · have e3 := h4 a1 a2 a3
        have a3' := k3.1 a3
        subst e1 e2 e3
        simp only [a1, a1', a2, a2', a3, a3']
      · have a3' : ¬ (3 < n' ∧ c3 / 64 = 2) := fun h => a3 (k3.2 h)
        subst e1 e2
        simp only [a1, a1', a2, a2', a3, a3', and_false, reduceIte]
    · have a2' : ¬ (2 < n' ∧ c2 / 64 = 2) := fun h => a2 (k2.2 h)
      subst e1
      simp only [a1, a1', a2, a2', false_and, and_false, reduceIte]
  · have a1' : ¬ (1 < n' ∧ c1 / 64 = 2) := fun h => a1 (h1.2 h)
    simp only [a1, a1', false_and, and_false, reduceIte]
theorem getD_stop (s t : List UInt8) (b : UInt8) (hb : b.toNat < 128) (i : Nat) (hi : i ≤ s.length) : (i < s.length ∧ (s.getD i 0).toNat / 64 = 2) ↔ (i < (s ++ b :: t).length ∧ ((s ++ b :: t).getD i 0).toNat / 64 = 2) := by
  by_cases h : i < s.length
  · rw [getD_app s _ i h]
    have : i < (s ++ b :: t).length := by simp; omega
    simp [h]
    omega
  · have e : i = s.length := by omega
    subst e
    have e2 : (s ++ b :: t).getD s.length 0 = b := by simp [List.getD]
    rw [e2]
    constructor
    · rintro ⟨h1, _⟩; omega
    · rintro ⟨_, h2⟩; omega
theorem decL_stop {s t : List UInt8} {b : UInt8} (h : s ≠ []) (hb : b.toNat < 128) : decL (s ++ b :: t) = decL s := by
  have hl : 0 < s.length := List.length_pos_iff.2 h
  rw [decL_at, decL_at, getD_app s _ 0 hl]
  refine (decodeN_stop (getD_stop s t b hb 1 (by omega)) (fun a1 => ⟨getD_stop s t b hb 2 (by omega), ?_⟩) (fun a1 a2 => ⟨getD_stop s t b hb 3 (by omega), ?_⟩) (fun a1 a2 a3 => ?_)).symm
  · rw [getD_app s _ 1 a1.1]
  · rw [getD_app s _ 2 a2.1]
  · rw [getD_app s _ 3 a3.1]
theorem cut_stop (s t : List UInt8) (b : UInt8) (hb : b.toNat < 128) : cut (s ++ b :: t) = cut s ++ (b.toNat, [b]) :: cut t := by
  by_cases h : s = []
  · subst h
    have hd : decL (b :: t) = (b.toNat, 1) := decL_ascii _ (by simpa using hb)
    rw [cut_nil, List.nil_append, List.nil_append, cut_cons (by simp), hd]
    rfl
  · have hw := decL_width s h
    have ih := cut_stop (s.drop (decL s).2) t b hb
    have hne : s ++ b :: t ≠ [] := by simp
    rw [cut_cons hne, cut_cons h, decL_stop h hb, List.cons_append, List.take_append_of_le_length hw.2.2, List.drop_append_of_le_length hw.2.2, ih]
termination_by s.length
decreasing_by
  have := decL_width s h
  rw [List.length_drop]
  omega

end Go.Proofs.YtglkmpglpddfdaaGreatDoor
end

section
namespace Go.Proofs.YtglkmpglpddfdaaGreatDoor
open Go.RowKit
set_option linter.unusedVariables false

def wdOf (x : We) : Wd := (x.1, x.2.1)
theorem wordsM_tail (b : List (Nat × List UInt8)) (hb : b = [] ∨ (∃ x t, b = x :: t ∧ x.1 = 35) ∨ ∃ x, b = [x] ∧ x.1 = 32) : ∀ (a : List (Nat × List UInt8)) (at_ en : Nat) (inn : Bool) (out : List Wd), wordsM (a ++ b) at_ en inn out = wordsM a at_ en inn out := by
  intro a
  induction a with
  | nil =>
    intro at_ en inn out
    rcases hb with rfl | ⟨x, t, rfl, h⟩ | ⟨x, rfl, h⟩
    · rfl
    · simp [wordsM, h]
    · simp [wordsM, h]
  | cons y a ih =>
    intro at_ en inn out
    simp only [List.cons_append, wordsM]
    split
    · rfl
    · split
      · exact ih _ _ _ _
      · exact ih _ _ _ _
theorem cutAt_cases (c : UInt8) (L : List UInt8) : (∃ t, L = (cutAt c L).1 ++ c :: t) ∨ (cutAt c L).1 = L := by
  induction L with
  | nil => right; rfl
  | cons b L ih =>
    by_cases hb : b = c
    · left; exact ⟨L, by simp [cutAt, hb]⟩
    · rcases ih with ⟨t, h⟩ | h
      · left; exact ⟨t, by simp only [cutAt, if_neg hb, List.cons_append]; rw [← h]⟩
      · right; simp only [cutAt, if_neg hb, h]
theorem cutAt_len (c : UInt8) (L : List UInt8) : (cutAt c L).1.length ≤ L.length ∧ (cutAt c L).2.1.length ≤ L.length := by
  induction L with
  | nil => exact ⟨Nat.le_refl _, Nat.le_refl _⟩
  | cons b L ih =>
    by_cases hb : b = c
    · simp [cutAt, hb]
    · simp only [cutAt, if_neg hb, List.length_cons]; omega
theorem wordsN_ahead (L : List UInt8) : wordsN L = wordsM (cut ((cutAt 35 L).1 ++ [32])) 0 1 false [] := by
  unfold wordsN
  rw [cut_stop (cutAt 35 L).1 [] 32 (by decide), cut_nil]
  rw [wordsM_tail [((32 : UInt8).toNat, [32])] (.inr (.inr ⟨_, rfl, rfl⟩))]
  rcases cutAt_cases 35 L with ⟨t, h⟩ | h
  · conv => lhs; rw [h]
    rw [cut_stop _ _ 35 (by decide)]
    exact wordsM_tail _ (.inr (.inl ⟨_, _, rfl, rfl⟩)) _ _ _ _ _
  · rw [h]

def lastE (out : List We) : Nat := match out.getLast? with | some x => x.2.2 | none => 1
theorem lastE_snoc (out : List We) (x : We) : lastE (out ++ [x]) = x.2.2 := by simp [lastE]
def openW (x : List UInt8) (pos s f : Nat) : List Wd := if s < pos then [((x.drop s).take (pos - s), f)] else []
def Rdn (x : List UInt8) (pos s f nx : Nat) (out : List We) (WN : List Wd × Nat) : Prop :=
  s ≤ pos ∧ (s = pos → f = nx) ∧ 1 ≤ nx ∧ wordsM (cut ((x ++ [32]).drop pos)) (nx - 1) (if s < pos then nx else lastE out) (decide (s < pos)) (out.map wdOf ++ openW x pos s f) = WN
theorem rdn_start (x : List UInt8) : Rdn x 0 0 1 1 [] (wordsM (cut (x ++ [32])) 0 1 false []) := ⟨Nat.le_refl _, fun _ => rfl, Nat.le_refl _, by simp [openW, lastE]⟩
theorem sign_at {x : List UInt8} {pos : Nat} (h : pos ≤ x.length) : (pos = x.length ∧ decL ((x ++ [32]).drop pos) = (32, 1)) ∨ (pos < x.length ∧ pos + (decL ((x ++ [32]).drop pos)).2 ≤ x.length ∧ ((x ++ [32]).drop pos).take (decL ((x ++ [32]).drop pos)).2 = (x.drop pos).take (decL ((x ++ [32]).drop pos)).2) := by
  by_cases hp : pos = x.length
  · left
    refine ⟨hp, ?_⟩
    rw [hp, List.drop_left' rfl]
    rw [decL_ascii _ (by decide)]
    rfl
  · right
    have hne : x.drop pos ≠ [] := by
      intro e
      have := congrArg List.length e
      simp at this
      omega
    have e : (x ++ [32]).drop pos = x.drop pos ++ 32 :: [] := by rw [List.drop_append_of_le_length (by omega)]
    have hw := decL_width _ hne
    rw [List.length_drop] at hw
    rw [e, decL_stop hne (by decide)]
    exact ⟨by omega, by omega, by rw [List.take_append_of_le_length (by rw [List.length_drop]; omega)]⟩
theorem rdn_space {x : List UInt8} {pos s f nx : Nat} {out : List We} {WN : List Wd × Nat} (h : Rdn x pos s f nx out WN) (hp : pos ≤ x.length) (hr : (decL ((x ++ [32]).drop pos)).1 = 32 ∨ (decL ((x ++ [32]).drop pos)).1 = 9) :
    (decL ((x ++ [32]).drop pos)).2 = 1 ∧ Rdn x (pos + 1) (pos + 1) (nx + 1) (nx + 1) (if s < pos then out ++ [((x.drop s).take (pos - s), f, nx)] else out) WN := by
  obtain ⟨h1, h2, h3, h4⟩ := h
  have hlt : pos < (x ++ [32]).length := by simp; omega
  have hne : (x ++ [32]).drop pos ≠ [] := by
    intro e
    have := congrArg List.length e
    simp at this
    omega
  have hk : (decL ((x ++ [32]).drop pos)).2 = 1 := by
    rw [decL_ascii _ ((decL_low _ hne).1 (by omega))]
  refine ⟨hk, Nat.le_refl _, fun _ => rfl, by omega, ?_⟩
  obtain ⟨hc, _, _, _⟩ := drop_sign hlt
  rw [hc, hk] at h4
  rw [← h4]
  conv => rhs; unfold wordsM
  have n35 : ¬ (decL ((x ++ [32]).drop pos)).1 = 35 := by omega
  simp only [n35, hr, if_true, Nat.lt_irrefl, if_false, decide_false, openW, List.append_nil, Nat.add_sub_cancel]
  rw [show nx - 1 + 1 = nx by omega]
  by_cases hs : s < pos
  · simp [hs, lastE_snoc, wdOf]
  · simp [hs]
theorem rdn_sign {x : List UInt8} {pos s f nx : Nat} {out : List We} {WN : List Wd × Nat} (h : Rdn x pos s f nx out WN) (hp : pos ≤ x.length) (hr : ¬ ((decL ((x ++ [32]).drop pos)).1 = 32 ∨ (decL ((x ++ [32]).drop pos)).1 = 9)) (h35 : (decL ((x ++ [32]).drop pos)).1 ≠ 35) :
    pos + (decL ((x ++ [32]).drop pos)).2 ≤ x.length ∧ Rdn x (pos + (decL ((x ++ [32]).drop pos)).2) s f (nx + 1) out WN := by
  obtain ⟨h1, h2, h3, h4⟩ := h
  have hlt : pos < (x ++ [32]).length := by simp; omega
  obtain ⟨hc, hk1, hk2, _⟩ := drop_sign hlt
  rcases sign_at hp with ⟨_, e⟩ | ⟨hpx, hle, htk⟩
  · exact absurd (.inl (by rw [e])) hr
  · generalize (decL ((x ++ [32]).drop pos)).2 = k at hc hk1 hk2 hle htk ⊢
    refine ⟨hle, by omega, fun e => by omega, by omega, ?_⟩
    rw [hc] at h4
    rw [← h4]
    conv => rhs; unfold wordsM
    rw [if_neg h35, if_neg hr, htk]
    have hs' : s < pos + k := by omega
    rw [show nx + 1 - 1 = nx - 1 + 1 by omega, show nx - 1 + 2 = nx + 1 by omega]
    simp only [hs', if_true, decide_true]
    congr 1
    unfold openW
    rw [if_pos hs']
    by_cases hs : s < pos
    · simp only [hs, decide_true, if_true]
      rw [addLast_snoc]
      congr 2
      rw [show pos + k - s = (pos - s) + k by omega, List.take_add, List.drop_drop, show s + (pos - s) = pos by omega]
    · obtain rfl : s = pos := by omega
      simp only [Nat.lt_irrefl, decide_false, if_false, List.append_nil]
      rw [if_neg (by simp), addLast_snoc, h2 rfl, show s + k - s = k by omega, show nx - 1 + 1 = nx by omega]
      rfl
theorem rdn_end {x : List UInt8} {s f nx : Nat} {out : List We} {WN : List Wd × Nat} {pos : Nat} (h : Rdn x pos s f nx out WN) (hp : ¬ pos < (x ++ [32]).length) (hs : s = pos) : WN = (out.map wdOf, lastE out) := by
  obtain ⟨_, _, _, h4⟩ := h
  subst hs
  rw [← h4, List.drop_eq_nil_of_le (by omega), cut_nil]
  simp [wordsM, openW]
theorem no35 {x : List UInt8} {pos : Nat} (h : ∀ b ∈ x, b ≠ 35) (hp : pos ≤ x.length) : (decL ((x ++ [32]).drop pos)).1 ≠ 35 := by
  intro e
  rcases sign_at hp with ⟨_, e2⟩ | ⟨hpx, _, _⟩
  · rw [e2] at e; simp at e
  · have hne : (x ++ [32]).drop pos ≠ [] := by
      intro e
      have := congrArg List.length e
      simp at this
      omega
    have hlow := (decL_low _ hne).1 (by omega)
    rw [decL_ascii _ hlow] at e
    have hg : ((x ++ [32]).drop pos).getD 0 0 = x[pos] := by
      simp [List.getD, List.getElem?_drop, List.getElem?_append_left hpx, List.getElem?_eq_getElem hpx]
    rw [hg] at e
    exact h x[pos] (List.getElem_mem hpx) (by
      apply UInt8.toNat_inj.1
      simpa using e)
theorem cutAt_no (c : UInt8) (L : List UInt8) : ∀ b ∈ (cutAt c L).1, b ≠ c := by
  induction L with
  | nil => intro b hb; simp [cutAt] at hb
  | cons y L ih =>
    intro b hb
    by_cases hy : y = c
    · simp [cutAt, hy] at hb
    · simp only [cutAt, if_neg hy, List.mem_cons] at hb
      rcases hb with rfl | hb
      · exact hy
      · exact ih b hb

end Go.Proofs.YtglkmpglpddfdaaGreatDoor
end
