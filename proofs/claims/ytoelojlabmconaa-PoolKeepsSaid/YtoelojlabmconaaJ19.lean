import Derived.Test.YtoelojlabmconaaJ18
import Derived.Test.YtoelojlabmconaaJ10
/- Of a claim's texts, joined: Pog Poq Por. No statement but in the last. -/
section
namespace Go.Proofs.Ytoelojlabmconaa
open Go.RowKit
set_option linter.unusedVariables false

theorem lit_z13 (v : World) (a b : Int) : RowZ (v.alloc (.cells #[.int .i64 a, .int .i64 b] 3)) (some ⟨v.heap.size, 0, none⟩) 2 2 [a, b] :=
  ⟨rfl, fun _ => ⟨v.heap.size, 0, rfl, fun j u hj => by rw [(Has.made v 3 _).cell, Nat.zero_add]; simpa using hj⟩, fun e => (by cases e), Nat.le_refl _, (by decide)⟩
theorem smallQ1 : smallR (⟨5, [3], []⟩ : Pd) := by unfold smallR; decide
theorem smallQ2 : smallR (⟨6, [], []⟩ : Pd) := by unfold smallR; decide
theorem smallQ3 : smallR (⟨6, [], [(7, [2, 5])]⟩ : Pd) := by unfold smallR; decide
section
variable {v : World} {A B L : Option Addr} {n c m d nl cl : Nat}
theorem take_ex (h : PoolA v A 1 c B 0 d (⟨5, [3], []⟩ : Pd)) : Calls Try.prog 19 #[.agg #[.int .i64 5, .slice A 1 c, .slice B 0 d], .int .i64 6, .int .i64 2] v fun e w' => ∃ A c B d L cl, e = .returned (.tuple #[.agg #[.int .i64 6, .slice A 0 c, .slice B 0 d], .slice L 2 cl, .bool true]) ∧ PoolA w' A 0 c B 0 d (⟨6, [], []⟩ : Pd) ∧ RowZ w' L 2 cl [3, 5] ∧ Below v.heap.size v w' := by
  refine (oTake13_any (⟨5, [3], []⟩ : Pd) 5 6 2 rfl h smallQ1 (by decide) (by decide)).mono ?_
  rintro e w' ⟨h', A', n', c', B', m', d', L, nl, cl, rfl, h2, h3, _⟩
  obtain ⟨h4, h5, h6⟩ := h3 (by decide)
  have e1 : takeP (⟨5, [3], []⟩ : Pd) ((2 : Int).toNat) = (⟨6, [], []⟩ : Pd) := rfl
  have e2 : takenP (⟨5, [3], []⟩ : Pd) ((2 : Int).toNat) = [3, 5] := by decide
  rw [e1] at h4 h5
  rw [e2] at h6
  have h7 := h5.pool
  obtain rfl : n' = 0 := h7.free.len
  obtain rfl : m' = 0 := h7.wait.len
  obtain rfl : nl = 2 := by have := h6.1; simpa using this.symm
  subst h4
  exact ⟨A', c', B', d', L, cl, by rw [show decide (0 ≤ (2 : Int) ∧ (2 : Int) ≤ roomP (⟨5, [3], []⟩ : Pd) 6) = true by decide], h7, RowZ.of_own h6, h2⟩
theorem give_ex (h : PoolA v A 0 c B 0 d (⟨6, [], []⟩ : Pd)) : Calls Try.prog 20 #[.agg #[.int .i64 6, .slice A 0 c, .slice B 0 d], .int .u64 7, .slice (some ⟨v.heap.size, 0, none⟩) 2 2] (v.alloc (.cells #[.int .i64 5, .int .i64 2] 3)) fun e w' => ∃ A c B d, e = .returned (.agg #[.int .i64 6, .slice A 0 c, .slice B 1 d]) ∧ PoolA w' A 0 c B 1 d (⟨6, [], [(7, [2, 5])]⟩ : Pd) ∧ Below v.heap.size v w' := by
  have hb := (Below.refl v.heap.size v).alloc (Nat.le_refl _) (.cells #[.int .i64 5, .int .i64 2] 3)
  refine (oGive13_any (⟨6, [], []⟩ : Pd) 6 7 [5, 2] _ 2 2 (fun x hx => by cases hx) (by decide) (h.below hb) (lit_z13 v 5 2) smallQ2 (by decide)).mono ?_
  rintro e w' ⟨A', n', c', B', m', d', rfl, h2, h3⟩
  have e1 : giveP (⟨6, [], []⟩ : Pd) 7 [5, 2] = (⟨6, [], [(7, [2, 5])]⟩ : Pd) := by rw [giveP_ne (by decide) (fun x hx => by cases hx)]; rfl
  rw [e1] at h2
  obtain rfl : n' = 0 := h2.free.len
  obtain rfl : m' = 1 := h2.wait.len
  exact ⟨A', c', B', d', rfl, h2, below_step hb h3⟩
theorem ordQ3 : (⟨6, [], [(7, [2, 5])]⟩ : Pd).wait.Pairwise (fun a b => a.1 < b.1) := List.pairwise_singleton _ _
theorem rel6_ex (h : PoolA v A 0 c B 1 d (⟨6, [], [(7, [2, 5])]⟩ : Pd)) : Calls Try.prog 21 #[.agg #[.int .i64 6, .slice A 0 c, .slice B 1 d], .int .u64 6, .bool true] v fun e w' => ∃ A c B d, e = .returned (.agg #[.int .i64 6, .slice A 0 c, .slice B 1 d]) ∧ PoolA w' A 0 c B 1 d (⟨6, [], [(7, [2, 5])]⟩ : Pd) ∧ Below v.heap.size v w' := by
  refine (oRel13_any (⟨6, [], [(7, [2, 5])]⟩ : Pd) 6 6 true ordQ3 (by decide) h smallQ3).mono ?_
  rintro e w' ⟨A', n', c', B', m', d', rfl, h2, h3⟩
  have e1 : relP (⟨6, [], [(7, [2, 5])]⟩ : Pd) 6 true = (⟨6, [], [(7, [2, 5])]⟩ : Pd) := rfl
  rw [e1] at h2
  obtain rfl : n' = 0 := h2.free.len
  obtain rfl : m' = 1 := h2.wait.len
  exact ⟨A', c', B', d', rfl, h2, h3⟩
theorem rel7_ex (h : PoolA v A 0 c B 1 d (⟨6, [], [(7, [2, 5])]⟩ : Pd)) : Calls Try.prog 21 #[.agg #[.int .i64 6, .slice A 0 c, .slice B 1 d], .int .u64 7, .bool true] v fun e w' => ∃ A c B d, e = .returned (.agg #[.int .i64 6, .slice A 2 c, .slice B 0 d]) ∧ PoolA w' A 2 c B 0 d (⟨6, [2, 5], []⟩ : Pd) ∧ Below v.heap.size v w' := by
  refine (oRel13_any (⟨6, [], [(7, [2, 5])]⟩ : Pd) 6 7 true ordQ3 (by decide) h smallQ3).mono ?_
  rintro e w' ⟨A', n', c', B', m', d', rfl, h2, h3⟩
  have e1 : relP (⟨6, [], [(7, [2, 5])]⟩ : Pd) 7 true = (⟨6, [2, 5], []⟩ : Pd) := rfl
  rw [e1] at h2
  obtain rfl : n' = 2 := h2.free.len
  obtain rfl : m' = 0 := h2.wait.len
  exact ⟨A', c', B', d', rfl, h2, h3⟩
theorem ints_ex {a b : Int} (h : RowZ v A 2 c [a, b]) : Calls Try.prog 16 #[.slice A 2 c, .slice (some ⟨v.heap.size, 0, none⟩) 2 2] (v.alloc (.cells #[.int .i64 a, .int .i64 b] 3)) fun e w' => e = .returned (.bool true) ∧ Below v.heap.size v w' := by
  have hb := (Below.refl v.heap.size v).alloc (Nat.le_refl _) (.cells #[.int .i64 a, .int .i64 b] 3)
  refine (r3Ints_z [a, b] A (some ⟨v.heap.size, 0, none⟩) 2 c 2 _ rfl (h.below hb).reads (lit_z13 v a b).reads (by decide)).mono ?_
  rintro e w' ⟨rfl, h2⟩
  exact ⟨rfl, below_step hb h2⟩
theorem list_ex (h : PoolA v A 0 c B 1 d (⟨6, [], [(7, [2, 5])]⟩ : Pd)) : Calls Try.prog 17 #[.agg #[.int .i64 6, .slice A 0 c, .slice B 1 d]] v fun e w' => ∃ A c, e = .returned (.slice A 2 c) ∧ RowZ w' A 2 c [2, 5] ∧ Below v.heap.size v w' := by
  refine (oList13_any (⟨6, [], [(7, [2, 5])]⟩ : Pd) 6 rfl h smallQ3).mono ?_
  rintro e w' ⟨A', n', c', rfl, h2, h3⟩
  rw [show listedP (⟨6, [], [(7, [2, 5])]⟩ : Pd) = [2, 5] by decide] at h2
  obtain rfl : n' = 2 := h2.len
  exact ⟨A', c', rfl, h2, h3⟩
end
set_option maxRecDepth 100000 in
set_option maxHeartbeats 4000000 in
theorem awake13_any (w : World) : Calls Try.prog 7 #[] w fun e w' => e = .returned (.bool true) ∧ Below w.heap.size w w' := by
  obtain ⟨U1, hU1⟩ : ∃ x, w.alloc (.cells #[.int .i64 3] 3) = x := ⟨_, rfl⟩
  obtain ⟨V1, hV1⟩ : ∃ x, U1.alloc (.cells #[.int .i64 5, .slice (some ⟨w.heap.size, 0, none⟩) 1 1, .slice none 0 0] 25) = x := ⟨_, rfl⟩
  have u1 : U1.heap.size = w.heap.size + 1 := by rw [← hU1]; simp
  have bU : Below w.heap.size w U1 := hU1 ▸ (Below.refl _ w).alloc (Nat.le_refl _) _
  have bV : Below U1.heap.size U1 V1 := hV1 ▸ (Below.refl _ U1).alloc (Nat.le_refl _) _
  have hr : RowZ U1 (some ⟨w.heap.size, 0, none⟩) 1 1 [3] := ⟨rfl, fun _ => ⟨w.heap.size, 0, rfl, fun j u hj => by rw [← hU1, (Has.made w 3 _).cell, Nat.zero_add]; simpa using hj⟩, fun e => (by cases e), Nat.le_refl _, (by decide)⟩
  have HP : Hid (BPool 25 V1 (w.heap.size + 1) 5 (some ⟨w.heap.size, 0, none⟩) 1 1 none 0 0 (⟨5, [3], []⟩ : Pd)) := Lib.hid ⟨u1 ▸ hV1 ▸ Has.made U1 _ _, hr.below bV, ⟨rfl, fun h => absurd h (Nat.lt_irrefl 0), Nat.le_refl _, Nat.zero_le _, fun x hx => by cases hx⟩⟩
  have HB1 := Lib.hid (below_step bU bV)
  have HV1 : Hid ((w.alloc (.cells #[.int .i64 3] 3)).alloc (.cells #[.int .i64 5, .slice (some ⟨w.heap.size, 0, none⟩) 1 1, .slice none 0 0] 25) = V1) := Lib.hid (by rw [hU1, hV1])
  have HT := Lib.hid (take_ex HP.out.po)
  clear hU1 hV1 u1 bU bV hr
  go_enter Try.func7, Try.ntmps7
  go_upto_region 2 with fail
  rw [HV1.out]
  have a0 := HP.out.hs.cell 0
  have a1 := HP.out.hs.cell 1
  have a2 := HP.out.hs.cell 2
  go_upto_region 3 with (go_at_call 19; (with_reducible refine HT.out.mono ?_); rintro e w2 ⟨Aq, cq, Bq, dq, L, cl, rfl, pq, rl, b2⟩)
  obtain ⟨V2, hV2⟩ : ∃ x, w2.alloc (.cells #[.int .i64 6, .slice Aq 0 cq, .slice Bq 0 dq] 25) = x := ⟨_, rfl⟩
  rw [hV2]
  have bv2 : Below w2.heap.size w2 V2 := hV2 ▸ (Below.refl _ _).alloc (Nat.le_refl _) _
  have HQ : Hid (BPool 25 V2 w2.heap.size 6 Aq 0 cq Bq 0 dq (⟨6, [], []⟩ : Pd)) := Lib.hid ⟨hV2 ▸ Has.made _ _ _, pq.below bv2⟩
  have HP2 := Lib.hid ((HP.out.below b2).below bv2)
  have HL2 := Lib.hid (rl.below bv2)
  have HB2 := Lib.hid (below_step (below_step HB1.out b2) bv2)
  obtain ⟨gq, hgq⟩ : ∃ x, w2.heap.size = x := ⟨_, rfl⟩
  rw [hgq] at HQ ⊢
  have q0 := HQ.out.hs.cell 0
  have q1 := HQ.out.hs.cell 1
  have q2 := HQ.out.hs.cell 2
  have HGV := Lib.hid (give_ex HQ.out.po)
  clear a0 a1 a2 hV2 bv2 pq rl b2 hgq
  go_upto_region 4 with (go_at_call 20; (with_reducible refine HGV.out.mono ?_); rintro e w3 ⟨Aw, cw, Bw, dw, rfl, pw, b3⟩)
  obtain ⟨V3, hV3⟩ : ∃ x, w3.alloc (.cells #[.int .i64 6, .slice Aw 0 cw, .slice Bw 1 dw] 25) = x := ⟨_, rfl⟩
  rw [hV3]
  have bv3 : Below w3.heap.size w3 V3 := hV3 ▸ (Below.refl _ _).alloc (Nat.le_refl _) _
  have HWW : Hid (BPool 25 V3 w3.heap.size 6 Aw 0 cw Bw 1 dw (⟨6, [], [(7, [2, 5])]⟩ : Pd)) := Lib.hid ⟨hV3 ▸ Has.made _ _ _, pw.below bv3⟩
  have HP3 := Lib.hid ((HP2.out.below b3).below bv3)
  have HQ3 := Lib.hid ((HQ.out.below b3).below bv3)
  have HL3 := Lib.hid ((HL2.out.below b3).below bv3)
  have HB3 := Lib.hid (below_step (below_step HB2.out b3) bv3)
  obtain ⟨gw, hgw⟩ : ∃ x, w3.heap.size = x := ⟨_, rfl⟩
  rw [hgw] at HWW ⊢
  have r0 := HWW.out.hs.cell 0
  have r1 := HWW.out.hs.cell 1
  have r2 := HWW.out.hs.cell 2
  have HR6 := Lib.hid (rel6_ex HWW.out.po)
  clear q0 q1 q2 hV3 bv3 pw b3 hgw
  go_upto_region 5 with (go_at_call 21; (with_reducible refine HR6.out.mono ?_); rintro e w4 ⟨Ax, cx, Bx, dx, rfl, px, b4⟩)
  obtain ⟨V4, hV4⟩ : ∃ x, w4.alloc (.cells #[.int .i64 6, .slice Ax 0 cx, .slice Bx 1 dx] 25) = x := ⟨_, rfl⟩
  rw [hV4]
  have bv4 : Below w4.heap.size w4 V4 := hV4 ▸ (Below.refl _ _).alloc (Nat.le_refl _) _
  have HXX : Hid (BPool 25 V4 w4.heap.size 6 Ax 0 cx Bx 1 dx (⟨6, [], [(7, [2, 5])]⟩ : Pd)) := Lib.hid ⟨hV4 ▸ Has.made _ _ _, px.below bv4⟩
  have HP4 := Lib.hid ((HP3.out.below b4).below bv4)
  have HQ4 := Lib.hid ((HQ3.out.below b4).below bv4)
  have HW4 := Lib.hid ((HWW.out.below b4).below bv4)
  have HL4 := Lib.hid ((HL3.out.below b4).below bv4)
  have HB4 := Lib.hid (below_step (below_step HB3.out b4) bv4)
  obtain ⟨gx, hgx⟩ : ∃ x, w4.heap.size = x := ⟨_, rfl⟩
  rw [hgx] at HXX ⊢
  have s0 := HW4.out.hs.cell 0
  have s1 := HW4.out.hs.cell 1
  have s2 := HW4.out.hs.cell 2
  have HR7 := Lib.hid (rel7_ex HW4.out.po)
  clear r0 r1 r2 hV4 bv4 px b4 hgx
  go_upto_region 6 with (go_at_call 21; (with_reducible refine HR7.out.mono ?_); rintro e w5 ⟨Ay, cy, By, dy, rfl, py, b5⟩)
  obtain ⟨V5, hV5⟩ : ∃ x, w5.alloc (.cells #[.int .i64 6, .slice Ay 2 cy, .slice By 0 dy] 25) = x := ⟨_, rfl⟩
  rw [hV5]
  have bv5 : Below w5.heap.size w5 V5 := hV5 ▸ (Below.refl _ _).alloc (Nat.le_refl _) _
  have HYY : Hid (BPool 25 V5 w5.heap.size 6 Ay 2 cy By 0 dy (⟨6, [2, 5], []⟩ : Pd)) := Lib.hid ⟨hV5 ▸ Has.made _ _ _, py.below bv5⟩
  have HP5 := Lib.hid ((HP4.out.below b5).below bv5)
  have HQ5 := Lib.hid ((HQ4.out.below b5).below bv5)
  have HW5 := Lib.hid ((HW4.out.below b5).below bv5)
  have HX5 := Lib.hid ((HXX.out.below b5).below bv5)
  have HL5 := Lib.hid ((HL4.out.below b5).below bv5)
  have HB5 := Lib.hid (below_step (below_step HB4.out b5) bv5)
  obtain ⟨gy, hgy⟩ : ∃ x, w5.heap.size = x := ⟨_, rfl⟩
  rw [hgy] at HYY ⊢
  have HI1 := Lib.hid (ints_ex HL5.out)
  have HRO : Hid (∀ v, Below V5.heap.size V5 v → Calls Try.prog 12 #[.agg #[.int .i64 5, .slice (some ⟨w.heap.size, 0, none⟩) 1 1, .slice none 0 0], .int .i64 6] v fun e w' => e = .returned (.int .i64 2) ∧ Below v.heap.size v w') := Lib.hid (fun v b => oRoom13_any (⟨5, [3], []⟩ : Pd) 5 6 rfl (HP5.out.below b).po smallQ1 (by decide))
  have HWA : Hid (∀ v, Below V5.heap.size V5 v → Calls Try.prog 14 #[.agg #[.int .i64 6, .slice Ax 0 cx, .slice Bx 1 dx]] v fun e w' => e = .returned (.int .i64 2) ∧ Below v.heap.size v w') := Lib.hid (fun v b => oWait13_any (⟨6, [], [(7, [2, 5])]⟩ : Pd) 6 rfl (HX5.out.below b).po smallQ3)
  have HI2 : Hid (∀ v, Below V5.heap.size V5 v → _) := Lib.hid (fun v b => ints_ex (v := v) (A := Ay) (c := cy) (a := 2) (b := 5) (HYY.out.below b).po.free)
  have HC6 : Hid (∀ v, Below V5.heap.size V5 v → Calls Try.prog 10 #[.agg #[.int .i64 6, .slice Aw 0 cw, .slice Bw 1 dw], .int .i64 6] v fun e w' => e = .returned (.bool true) ∧ Below v.heap.size v w') := Lib.hid (fun v b => oCheck13_any (⟨6, [], [(7, [2, 5])]⟩ : Pd) 6 6 rfl (HW5.out.below b).po smallQ3)
  have HC5 : Hid (∀ v, Below V5.heap.size V5 v → Calls Try.prog 10 #[.agg #[.int .i64 6, .slice Aw 0 cw, .slice Bw 1 dw], .int .i64 5] v fun e w' => e = .returned (.bool false) ∧ Below v.heap.size v w') := Lib.hid (fun v b => oCheck13_any (⟨6, [], [(7, [2, 5])]⟩ : Pd) 6 5 rfl (HW5.out.below b).po smallQ3)
  have HLI : Hid (∀ v, Below V5.heap.size V5 v → _) := Lib.hid (fun v b => list_ex (v := v) (A := Aw) (B := Bw) (c := cw) (d := dw) (HW5.out.below b).po)
  have HI3 : Hid (∀ v A c, RowZ v A 2 c [2, 5] → _) := Lib.hid (fun v A c h => ints_ex (v := v) (A := A) (c := c) (a := 2) (b := 5) h)
  have hY := HYY.out.hs
  clear s0 s1 s2 hV5 bv5 py b5 hgy
  go_wp2_with (first
    | (go_at_call 16; (with_reducible refine HI1.out.mono ?_); rintro e v1 ⟨rfl, t1⟩; have T1 := Lib.hid t1; have c0 := (HQ5.out.below t1).hs.cell 0; have c1 := (HQ5.out.below t1).hs.cell 1; have d0 := (HP5.out.below t1).hs.cell 0; have d1 := (HP5.out.below t1).hs.cell 1; have d2 := (HP5.out.below t1).hs.cell 2; clear t1)
    | (go_at_call 12; (with_reducible refine (HRO.out _ T1.out).mono ?_); rintro e v2 ⟨rfl, t2⟩; have T2 := Lib.hid (below_step T1.out t2); have c0 := (HX5.out.below T2.out).hs.cell 0; have c1 := (HX5.out.below T2.out).hs.cell 1; have c2 := (HX5.out.below T2.out).hs.cell 2; clear t2)
    | (go_at_call 14; (with_reducible refine (HWA.out _ T2.out).mono ?_); rintro e v3 ⟨rfl, t3⟩; have T3 := Lib.hid (below_step T2.out t3); have c1 := (HYY.out.below T3.out).hs.cell 1; have c2 := (HYY.out.below T3.out).hs.cell 2; clear t3)
    | (go_at_call 16; (with_reducible refine (HI2.out _ T3.out).mono ?_); rintro e v4 ⟨rfl, t4⟩; have T4 := Lib.hid (below_step T3.out t4); have c0 := (HW5.out.below T4.out).hs.cell 0; have c1 := (HW5.out.below T4.out).hs.cell 1; have c2 := (HW5.out.below T4.out).hs.cell 2; clear t4)
    | (go_at_call 10; (with_reducible refine (HC6.out _ T4.out).mono ?_); rintro e v5 ⟨rfl, t5⟩; have T5 := Lib.hid (below_step T4.out t5); have c0 := (HW5.out.below T5.out).hs.cell 0; have c1 := (HW5.out.below T5.out).hs.cell 1; have c2 := (HW5.out.below T5.out).hs.cell 2; clear t5)
    | (go_at_call 10; (with_reducible refine (HC5.out _ T5.out).mono ?_); rintro e v6 ⟨rfl, t6⟩; have T6 := Lib.hid (below_step T5.out t6); have c0 := (HW5.out.below T6.out).hs.cell 0; have c1 := (HW5.out.below T6.out).hs.cell 1; have c2 := (HW5.out.below T6.out).hs.cell 2; clear t6)
    | (go_at_call 17; (with_reducible refine (HLI.out _ T6.out).mono ?_); rintro e v7 ⟨A7, c7, rfl, r7, t7⟩; have R7 := Lib.hid r7; have T7 := Lib.hid (below_step T6.out t7); clear r7 t7)
    | (go_at_call 16; (with_reducible refine (HI3.out _ _ _ R7.out).mono ?_); rintro e v8 ⟨rfl, t8⟩; have T8 := Lib.hid (below_step T7.out t8); clear t8))
  go_ret
  exact ⟨rfl, below_step HB5.out T8.out⟩
end Go.Proofs.Ytoelojlabmconaa
end

section
namespace Go.Proofs.Ytoelojlabmconaa
open Go.RowKit
set_option linter.unusedVariables false

def orL (hs : List Bool) (l : List Int) : List Bool := hs.mapIdx (fun i b => b || decide ((i : Int) ∈ l))
def outL (hs : List Bool) (l : List Int) : List Bool := hs.mapIdx (fun i b => b && !decide ((i : Int) ∈ l))
theorem orL_len (hs : List Bool) (l : List Int) : (orL hs l).length = hs.length := by simp [orL]
theorem outL_len (hs : List Bool) (l : List Int) : (outL hs l).length = hs.length := by simp [outL]
theorem orL_get {hs : List Bool} {l : List Int} {k : Nat} (hk : k < hs.length) : (orL hs l).getD k false = (hs.getD k false || decide ((k : Int) ∈ l)) := by
  rw [List.getD_eq_getElem?_getD, List.getD_eq_getElem?_getD, List.getElem?_eq_getElem (by rw [orL_len]; exact hk), List.getElem?_eq_getElem hk]
  simp [orL]
theorem outL_get {hs : List Bool} {l : List Int} {k : Nat} (hk : k < hs.length) : (outL hs l).getD k false = (hs.getD k false && !decide ((k : Int) ∈ l)) := by
  rw [List.getD_eq_getElem?_getD, List.getD_eq_getElem?_getD, List.getElem?_eq_getElem (by rw [outL_len]; exact hk), List.getElem?_eq_getElem hk]
  simp [outL]
theorem orL_nil (hs : List Bool) : orL hs [] = hs := by
  refine List.ext_getElem (orL_len _ _) (fun i h1 h2 => ?_)
  simp [orL]
theorem outL_nil (hs : List Bool) : outL hs [] = hs := by
  refine List.ext_getElem (outL_len _ _) (fun i h1 h2 => ?_)
  simp [outL]
theorem orL_set (hs : List Bool) (l : List Int) (k : Nat) : (orL hs l).set k true = orL hs (l ++ [(k : Int)]) := by
  refine List.ext_getElem (by rw [List.length_set, orL_len, orL_len]) (fun i h1 h2 => ?_)
  rw [List.getElem_set]
  by_cases e : k = i
  · subst e
    simp [orL]
  · rw [if_neg e]
    have e2 : ¬ ((i : Int) = (k : Int)) := by omega
    simp [orL, e2]
theorem outL_set (hs : List Bool) (l : List Int) (k : Nat) : (outL hs l).set k false = outL hs (l ++ [(k : Int)]) := by
  refine List.ext_getElem (by rw [List.length_set, outL_len, outL_len]) (fun i h1 h2 => ?_)
  rw [List.getElem_set]
  by_cases e : k = i
  · subst e
    simp [outL]
  · rw [if_neg e]
    have e2 : ¬ ((i : Int) = (k : Int)) := by omega
    simp [outL, e2]
def markL (hs : List Bool) (k : Nat) : List Int := ((List.range k).filter (fun i => hs.getD i false)).map (fun (i : Nat) => (i : Int))
def cntTo (hs : List Bool) (k : Nat) : Nat := (markL hs k).length
theorem cntTo_more (hs : List Bool) (k : Nat) : cntTo hs (k + 1) = cntTo hs k + if hs.getD k false = true then 1 else 0 := by
  unfold cntTo markL
  rw [List.range_succ, List.filter_append, List.map_append, List.length_append]
  cases e : hs.getD k false
  · simp only [List.filter_cons, List.filter_nil, e]
    simp
  · simp only [List.filter_cons, List.filter_nil, e]
    simp
theorem cntTo_most (hs : List Bool) (k : Nat) : cntTo hs k ≤ k := by
  unfold cntTo markL
  rw [List.length_map]
  exact Nat.le_trans (List.length_filter_le _ _) (Nat.le_of_eq List.length_range)
theorem mem_markL {hs : List Bool} {k : Nat} {x : Int} : x ∈ markL hs k ↔ ∃ i : Nat, i < k ∧ hs.getD i false = true ∧ x = (i : Int) := by
  unfold markL
  rw [List.mem_map]
  constructor
  · rintro ⟨i, hi, rfl⟩
    obtain ⟨h1, h2⟩ := List.mem_filter.1 hi
    exact ⟨i, List.mem_range.1 h1, h2, rfl⟩
  · rintro ⟨i, h1, h2, rfl⟩
    exact ⟨i, List.mem_filter.2 ⟨List.mem_range.2 h1, h2⟩, rfl⟩
theorem markL_nodup (hs : List Bool) (k : Nat) : (markL hs k).Nodup := by
  unfold markL
  show List.Pairwise _ _
  rw [List.pairwise_map]
  exact (List.Pairwise.filter _ List.nodup_range).imp (fun h e => h (by omega))
structure KpP (p : Pd) (top t : Nat) (hs : List Bool) : Prop where
  ok : OkP p top
  len : hs.length = top
  part : ∀ k : Nat, k < top → (hs.getD k false = true ↔ 2 ≤ k ∧ (k : Int) < p.hi ∧ (k : Int) ∉ p.free ++ catZ p.wait)
  last : ∀ x ∈ p.wait, x.1 < t
theorem KpP.zero {top : Nat} (h : 2 ≤ top) : KpP ⟨2, [], []⟩ top 1 (List.replicate top false) := by
  refine ⟨⟨by decide, by show (2 : Int) ≤ (top : Int); omega, List.Pairwise.nil, List.Pairwise.nil, fun x hx => absurd hx (by simp), by simp [catZ], fun x hx => absurd hx (by simp [catZ])⟩, by simp, fun k hk => ?_, fun x hx => absurd hx (by simp)⟩
  rw [List.getD_eq_getElem?_getD, List.getElem?_eq_getElem (by simpa using hk)]
  simp
  intro h1 h2
  have h2' : (k : Int) < 2 := h2
  omega
theorem KpP.all {p : Pd} {top t : Nat} {hs : List Bool} (h : KpP p top t hs) : ((p.free ++ catZ p.wait) ++ markL hs top).Perm (newP 2 (p.hi - 2).toNat) := by
  have h2 := h.ok.hi2
  have hq := h.ok.hiq
  refine (List.perm_ext_iff_of_nodup ?_ (incZ_nodup (newP_inc _ _))).2 (fun x => ?_)
  · refine List.nodup_append.2 ⟨h.ok.once, markL_nodup _ _, fun a ha b hb e => ?_⟩
    subst e
    obtain ⟨i, hi, h1, rfl⟩ := mem_markL.1 hb
    exact ((h.part i hi).1 h1).2.2 ha
  · rw [List.mem_append, mem_newP]
    constructor
    · rintro (hx | hx)
      · have := h.ok.within x hx
        omega
      · obtain ⟨i, hi, h1, rfl⟩ := mem_markL.1 hx
        have := (h.part i hi).1 h1
        omega
    · rintro ⟨h1, h3⟩
      by_cases hx : x ∈ p.free ++ catZ p.wait
      · exact Or.inl hx
      · refine Or.inr (mem_markL.2 ⟨x.toNat, by omega, (h.part x.toNat (by omega)).2 ⟨by omega, by omega, ?_⟩, by omega⟩)
        rw [show ((x.toNat : Nat) : Int) = x by omega]
        exact hx
theorem KpP.count {p : Pd} {top t : Nat} {hs : List Bool} (h : KpP p top t hs) : (((listedP p).length + cntTo hs top : Nat) : Int) = p.hi - 2 := by
  have h2 := h.ok.hi2
  have h1 := h.all.length_eq
  rw [List.length_append, newP_len] at h1
  have h3 : (listedP p).length = (p.free ++ catZ p.wait).length := srtZ_len _
  unfold cntTo
  omega
theorem cat_least {l : List (Nat × List Int)} (h : ∀ x ∈ l, x.2 ≠ []) : l.length ≤ (catZ l).length := by
  induction l with
  | nil => exact Nat.le_refl _
  | cons a l ih =>
    show _ ≤ (a.2 ++ catZ l).length
    have h1 := ih (fun x hx => h x (List.mem_cons_of_mem _ hx))
    have h2 : 0 < a.2.length := List.length_pos_iff.2 (h a List.mem_cons_self)
    rw [List.length_append, List.length_cons]
    omega
theorem KpP.small {p : Pd} {top t : Nat} {hs : List Bool} (h : KpP p top t hs) (ht : top ≤ 1000) : smallR p := by
  have h1 := h.count
  have h2 := h.ok.hi2
  have hq := h.ok.hiq
  have h3 : (listedP p).length = p.free.length + (catZ p.wait).length := by unfold listedP; rw [srtZ_len, List.length_append]
  have h4 := cat_least (fun x hx => (h.ok.pages x hx).1)
  unfold smallR
  omega
theorem KpP.rel {p : Pd} {top t : Nat} {hs : List Bool} (h : KpP p top t hs) (o : Nat) (held : Bool) : KpP (relP p o held) top t hs :=
  ⟨relP_ok h.ok o held, h.len, fun k hk => (h.part k hk).trans (and_congr Iff.rfl (and_congr Iff.rfl (not_congr (relP_all p o held).mem_iff.symm))), fun x hx => h.last x (List.mem_filter.1 hx).1⟩
theorem KpP.taken {p : Pd} {top t : Nat} {hs : List Bool} (h : KpP p top t hs) {N : Nat} (hN : (N : Int) ≤ roomP p top) : ∀ x ∈ takenP p N, 2 ≤ x ∧ x < (top : Int) ∧ hs.getD x.toNat false = false := by
  intro x hx
  have h2 := h.ok.hi2
  have hh := (roomP_take h.ok.hiq hN).2
  have he : (takeP p N).hi = p.hi + ((N - p.free.length : Nat) : Int) := rfl
  rw [he] at hh
  unfold takenP at hx
  rcases List.mem_append.1 hx with h1 | h1
  · have h3 := List.mem_append_left (catZ p.wait) (srtZ_mem.1 (List.mem_of_mem_take h1))
    have h4 := h.ok.within x h3
    have hq := h.ok.hiq
    refine ⟨h4.1, by omega, ?_⟩
    cases e : hs.getD x.toNat false
    · rfl
    · have h5 := ((h.part x.toNat (by omega)).1 e).2.2
      rw [show ((x.toNat : Nat) : Int) = x by omega] at h5
      exact absurd h3 h5
  · have h3 := mem_newP.1 h1
    refine ⟨by omega, by omega, ?_⟩
    cases e : hs.getD x.toNat false
    · rfl
    · have h5 := ((h.part x.toNat (by omega)).1 e).2.1
      omega
theorem KpP.take {p : Pd} {top t : Nat} {hs : List Bool} (h : KpP p top t hs) {N : Nat} (hN : (N : Int) ≤ roomP p top) : KpP (takeP p N) top t (orL hs (takenP p N)) := by
  have hh := (roomP_take h.ok.hiq hN).2
  have he : (takeP p N).hi = p.hi + ((N - p.free.length : Nat) : Int) := rfl
  have hp := takeP_parts p N
  have hnd := hp.symm.nodup (parts_nodup h.ok _)
  refine ⟨takeP_ok h.ok N hh, by rw [orL_len]; exact h.len, fun k hk => ?_, h.last⟩
  rw [orL_get (by rw [h.len]; exact hk), Bool.or_eq_true, decide_eq_true_iff, h.part k hk]
  have hm : (k : Int) ∈ ((takeP p N).free ++ catZ p.wait) ++ takenP p N ↔ _ := hp.mem_iff
  rw [List.mem_append (s := (takeP p N).free ++ catZ p.wait), List.mem_append (s := p.free ++ catZ p.wait), mem_newP] at hm
  have hd : ∀ x ∈ (takeP p N).free ++ catZ p.wait, x ∉ takenP p N := fun x hx hy => (List.nodup_append.1 hnd).2.2 x hx x hy rfl
  have hw := h.ok.within (k : Int)
  have hT := h.taken hN (k : Int)
  have h2 := h.ok.hi2
  show (2 ≤ k ∧ (k : Int) < p.hi ∧ ¬ (k : Int) ∈ p.free ++ catZ p.wait) ∨ (k : Int) ∈ takenP p N ↔ 2 ≤ k ∧ (k : Int) < (takeP p N).hi ∧ ¬ (k : Int) ∈ (takeP p N).free ++ catZ p.wait
  rw [he]
  constructor
  · rintro (⟨h1, h3, h4⟩ | h1)
    · refine ⟨h1, by omega, fun e => ?_⟩
      rcases hm.1 (Or.inl e) with h5 | h5
      · exact h4 h5
      · omega
    · have h5 := hT h1
      refine ⟨by omega, ?_, fun e => hd _ e h1⟩
      rcases hm.1 (Or.inr h1) with h6 | h6
      · have := hw h6
        omega
      · omega
  · rintro ⟨h1, h3, h4⟩
    by_cases h5 : (k : Int) ∈ takenP p N
    · exact Or.inr h5
    · refine Or.inl ⟨h1, ?_, fun e => ?_⟩
      · by_cases h6 : (k : Int) < p.hi
        · exact h6
        · rcases hm.2 (Or.inr ⟨by omega, by omega⟩) with h7 | h7
          · exact absurd h7 h4
          · exact absurd h7 h5
      · rcases hm.2 (Or.inl e) with h7 | h7
        · exact h4 h7
        · exact h5 h7
theorem giveP_new {p : Pd} {t : Nat} {l : List Int} (hl : l ≠ []) (h : ∀ x ∈ p.wait, x.1 < t) : giveP p t l = ⟨p.hi, p.free, p.wait ++ [(t, srtZ l)]⟩ := by
  unfold giveP
  rw [if_neg hl]
  cases e : p.wait.getLast? with
  | none => rfl
  | some x =>
    have h1 := h x (List.mem_of_getLast? e)
    show (if x.1 = t then _ else _) = _
    rw [if_neg (by omega)]
theorem KpP.give {p : Pd} {top t : Nat} {hs : List Bool} (h : KpP p top t hs) {l : List Int} (hn : l.Nodup) (hl : ∀ x ∈ l, 2 ≤ x ∧ x < (top : Int) ∧ hs.getD x.toNat false = true) : KpP (giveP p t l) top (t + 1) (outL hs l) := by
  by_cases he : l = []
  · subst he
    rw [outL_nil, show giveP p t [] = p from rfl]
    exact ⟨h.ok, h.len, h.part, fun x hx => Nat.lt_succ_of_lt (h.last x hx)⟩
  · rw [giveP_new he h.last]
    have hx0 : ∀ x ∈ l, x < p.hi ∧ x ∉ p.free ++ catZ p.wait := fun x hx => by
      have h1 := hl x hx
      have h5 := ((h.part x.toNat (by omega)).1 h1.2.2).2
      rw [show ((x.toNat : Nat) : Int) = x by omega] at h5
      exact h5
    have hcat : catZ (p.wait ++ [(t, srtZ l)]) = catZ p.wait ++ srtZ l := by simp [catZ]
    have hsn : (srtZ l).Nodup := (srtZ_perm l).symm.nodup hn
    refine ⟨⟨h.ok.hi2, h.ok.hiq, h.ok.free, ?_, fun x hx => ?_, ?_, fun x hx => ?_⟩, by rw [outL_len]; exact h.len, fun k hk => ?_, fun x hx => ?_⟩
    · show (p.wait ++ [(t, srtZ l)]).Pairwise _
      refine List.pairwise_append.2 ⟨h.ok.txn, List.pairwise_singleton _ _, fun a ha b hb => ?_⟩
      obtain rfl : b = (t, srtZ l) := by simpa using hb
      exact h.last a ha
    · rcases List.mem_append.1 hx with h1 | h1
      · exact h.ok.pages x h1
      · obtain rfl : x = (t, srtZ l) := by simpa using h1
        refine ⟨fun e => he ?_, inc_of_ris (srtZ_ris l) hsn⟩
        have h3 := srtZ_len l
        rw [show srtZ l = [] from e] at h3
        exact List.length_eq_zero_iff.1 h3.symm
    · show (p.free ++ catZ (p.wait ++ [(t, srtZ l)])).Nodup
      rw [hcat, ← List.append_assoc]
      refine List.nodup_append.2 ⟨h.ok.once, hsn, fun a ha b hb e => ?_⟩
      subst e
      exact (hx0 a (srtZ_mem.1 hb)).2 ha
    · have hx2 : x ∈ p.free ++ catZ (p.wait ++ [(t, srtZ l)]) := hx
      rw [hcat, ← List.append_assoc] at hx2
      rcases List.mem_append.1 hx2 with h1 | h1
      · exact h.ok.within x h1
      · have h3 := srtZ_mem.1 h1
        exact ⟨(hl x h3).1, (hx0 x h3).1⟩
    · rw [outL_get (by rw [h.len]; exact hk), Bool.and_eq_true, h.part k hk]
      show _ ↔ 2 ≤ k ∧ (k : Int) < p.hi ∧ ¬ (k : Int) ∈ p.free ++ catZ (p.wait ++ [(t, srtZ l)])
      rw [hcat, ← List.append_assoc, List.mem_append (s := p.free ++ catZ p.wait), srtZ_mem]
      simp only [Bool.not_eq_true', decide_eq_false_iff_not, not_or]
      constructor
      · rintro ⟨⟨h1, h3, h4⟩, h5⟩
        exact ⟨h1, h3, h4, h5⟩
      · rintro ⟨h1, h3, h4, h5⟩
        exact ⟨⟨h1, h3, h4⟩, h5⟩
    · rcases List.mem_append.1 hx with h1 | h1
      · exact Nat.lt_succ_of_lt (h.last x h1)
      · obtain rfl : x = (t, srtZ l) := by simpa using h1
        exact Nat.lt_succ_self _
def outB (hs : List Bool) (N : Int) (k : Nat) : Bool := hs.getD k false && (decide (0 < N) && decide ((k : Int).tmod N = 0))
def backTo (hs : List Bool) (N : Int) (top : Nat) : Nat → List Int
  | 0 => []
  | m + 1 => backTo hs N top m ++ if outB hs N (top - 1 - m) = true then [((top - 1 - m : Nat) : Int)] else []
theorem mem_backTo {hs : List Bool} {N : Int} {top m : Nat} (hm : m + 1 ≤ top) : ∀ x ∈ backTo hs N top m, ((top - 1 - m : Nat) : Int) < x ∧ x < (top : Int) ∧ hs.getD x.toNat false = true := by
  induction m with
  | zero => intro x hx; cases hx
  | succ m ih =>
    intro x hx
    rcases List.mem_append.1 hx with h1 | h1
    · have := ih (by omega) x h1
      exact ⟨by omega, this.2⟩
    · by_cases e : outB hs N (top - 1 - m) = true
      · rw [if_pos e] at h1
        obtain rfl : x = ((top - 1 - m : Nat) : Int) := by simpa using h1
        unfold outB at e
        rw [Bool.and_eq_true] at e
        refine ⟨by omega, by omega, ?_⟩
        rw [Int.toNat_natCast]
        exact e.1
      · rw [if_neg e] at h1
        cases h1
theorem backTo_nodup {hs : List Bool} {N : Int} {top m : Nat} (hm : m + 1 ≤ top) : (backTo hs N top m).Nodup := by
  induction m with
  | zero => exact List.nodup_nil
  | succ m ih =>
    refine List.nodup_append.2 ⟨ih (by omega), ?_, fun a ha b hb e => ?_⟩
    · split
      · simp
      · exact List.nodup_nil
    · subst e
      have h1 := mem_backTo (by omega) a ha
      split at hb
      · obtain rfl : a = ((top - 1 - m : Nat) : Int) := by simpa using hb
        omega
      · cases hb
theorem backTo_len {hs : List Bool} {N : Int} {top m : Nat} : (backTo hs N top m).length ≤ m := by
  induction m with
  | zero => exact Nat.le_refl _
  | succ m ih =>
    show (backTo hs N top m ++ _).length ≤ _
    rw [List.length_append]
    split
    · simp
      exact ih
    · simp
      omega
theorem KpP.back {p : Pd} {top t : Nat} {hs : List Bool} (h : KpP p top t hs) (N : Int) (h2 : 2 ≤ top) : KpP (giveP p t (backTo hs N top (top - 2))) top (t + 1) (outL hs (backTo hs N top (top - 2))) :=
  h.give (backTo_nodup (by omega)) (fun x hx => by have := mem_backTo (by omega) x hx; exact ⟨by omega, this.2⟩)
theorem out_here {hs : List Bool} {N : Int} {top m : Nat} (hm : m + 2 ≤ top) (hl : hs.length = top) : (outL hs (backTo hs N top m)).getD (top - 1 - m) false = hs.getD (top - 1 - m) false := by
  rw [outL_get (by omega)]
  have h1 : ¬ ((top - 1 - m : Nat) : Int) ∈ backTo hs N top m := fun e => by have := mem_backTo (by omega) _ e; omega
  simp [h1]
end Go.Proofs.Ytoelojlabmconaa
end

section
namespace Go.Proofs.Ytoelojlabmconaa
open Go.RowKit
set_option linter.unusedVariables false

def HasB (w : World) (g : Nat) (hs : List Bool) : Prop := Has w g 4 (hs.map Value.bool).toArray
section
variable {w w' : World} {g : Nat} {hs : List Bool}
theorem HasB.at (h : HasB w g hs) {k : Nat} (hk : k < hs.length) : w.cell? ⟨g, k, none⟩ = some (.bool (hs.getD k false)) := by
  rw [Has.cell h]
  simp [hk]
theorem HasB.mark (h : HasB w g hs) (k : Nat) (b : Bool) : HasB (w.setCell ⟨g, k, none⟩ (.bool b)) g (hs.set k b) := by
  have h1 := Has.store h k (.bool b)
  unfold HasB
  rw [List.map_set]
  simpa using h1
theorem HasB.start (w : World) (n : Nat) : HasB (w.alloc (.cells (madeCells #[.bool false] n) 4)) w.heap.size (List.replicate n false) := by
  unfold HasB
  have e : madeCells #[.bool false] n = ((List.replicate n false).map Value.bool).toArray := by
    rw [← Array.toArray_toList (xs := madeCells #[.bool false] n), toList_madeCells_one, List.map_replicate]
  rw [← e]
  exact Has.made w 4 _
end
theorem make_bools13 (w : World) (n : Nat) (hn : n ≤ 100000) : (Instr.makeSlice 42 (.int .i64 (n : Int)) (.int .i64 (n : Int))).run Try.prog w = .ok (.slice (some ⟨w.heap.size, 0, none⟩) n n) (w.alloc (.cells (madeCells #[.bool false] n) 4)) := by
  obtain ⟨i0, hi, hz0, hz1, hz2⟩ := info_parts (show (Try.prog.info? 4).map (fun i => (i.zero, i.size, i.bytes)) = some (some (.bool false), 1, 1) by kernel_rfl)
  have := run_make (P := Try.prog) (w := w) 42 4 i0 (.bool false) Try.underlying42 hi hz0 .i64 .i64 (n : Int) (n : Int) (by omega) (by omega) (by rw [hz2]; omega) (by omega)
  have e2 : (Value.bool false).cells = #[.bool false] := rfl
  simpa [hz1, e2] using this
structure StA13 (w : World) (A : Option Addr) (n : Nat) (l : List (Int × Int × Nat)) : Prop where
  len : n = l.length
  reads : 0 < n → ∃ b off, A = some ⟨b, off, none⟩ ∧ b < w.heap.size ∧ ∀ i x, l[i]? = some x → w.cell? ⟨b, off + i * 3, none⟩ = some (.int .i64 x.1) ∧ w.cell? ⟨b, off + i * 3 + 1, none⟩ = some (.int .i64 x.2.1) ∧ w.cell? ⟨b, off + i * 3 + 2, none⟩ = some (.int .u64 (x.2.2 : Int))
  big : ∀ x ∈ l, x.2.2 < 2 ^ 64
  int : ∀ x ∈ l, -9223372036854775808 ≤ x.2.1 ∧ x.2.1 ≤ 9223372036854775807
def st3 (w : World) (g : Nat) (a b c : Value) : World := ((w.setCell ⟨g, 0, none⟩ a).setCell ⟨g, 1, none⟩ b).setCell ⟨g, 2, none⟩ c
theorem st3_only {w : World} {g : Nat} (a b c : Value) : w.grownBy (st3 w g a b c) (some g) := only_store (only_store (only_store (World.grownBy.refl w (some g)) 0 a) 1 b) 2 c
theorem Has.st3 {w : World} {g : Nat} {t : TypeId} {x y z : Value} (h : Has w g t #[x, y, z]) (a b c : Value) : Has (st3 w g a b c) g t #[a, b, c] := by
  have := ((h.store 0 a).store 1 b).store 2 c
  simpa [Go.Proofs.Ytoelojlabmconaa.st3] using this
structure KpS (W w : World) (bp gh : Nat) (hs : List Bool) (h : Int) (A : Option Addr) (n c : Nat) (B : Option Addr) (m d : Nat) (p : Pd) : Prop where
  bel : Below W.heap.size W w
  lo : W.heap.size ≤ bp ∧ W.heap.size ≤ gh ∧ bp ≠ gh
  box : Has w bp 25 #[.int .i64 h, .slice A n c, .slice B m d]
  row : HasB w gh hs
  po : PoolU (fun g => g = bp ∨ g = gh) w A n c B m d p
  hi : p.hi = h
section
variable {W w w' : World} {bp gh : Nat} {hs : List Bool} {h : Int} {A : Option Addr} {n c : Nat} {B : Option Addr} {m d : Nat} {p : Pd}
theorem KpS.below (s : KpS W w bp gh hs h A n c B m d p) (b : Below w.heap.size w w') : KpS W w' bp gh hs h A n c B m d p :=
  ⟨below_step s.bel b, s.lo, s.box.below b s.box.lt, Has.below s.row b (Has.lt s.row), s.po.below b, s.hi⟩
theorem KpS.drew (s : KpS W w bp gh hs h A n c B m d p) : KpS W w.drew bp gh hs h A n c B m d p := s.below (Below.refl _ _).drew
theorem KpS.mark (s : KpS W w bp gh hs h A n c B m d p) (k : Nat) (b : Bool) : KpS W (w.setCell ⟨gh, k, none⟩ (.bool b)) bp gh (hs.set k b) h A n c B m d p :=
  ⟨s.bel.setCell s.lo.2.1 _, s.lo, s.box.away s.lo.2.2 _, s.row.mark k b, s.po.turn (only_store (World.grownBy.refl w (some gh)) k (.bool b)) (Or.inr rfl), s.hi⟩
theorem KpS.put {h' : Int} {A' : Option Addr} {n' c' : Nat} {B' : Option Addr} {m' d' : Nat} {p' : Pd} (s : KpS W w bp gh hs h A n c B m d p) (po : PoolU (fun g => g = bp ∨ g = gh) w A' n' c' B' m' d' p') (hi : p'.hi = h') : KpS W (st3 w bp (.int .i64 h') (.slice A' n' c') (.slice B' m' d')) bp gh hs h' A' n' c' B' m' d' p' :=
  ⟨((s.bel.setCell s.lo.1 _).setCell s.lo.1 _).setCell s.lo.1 _, s.lo, s.box.st3 _ _ _, Has.grown s.row (st3_only _ _ _) (fun e => s.lo.2.2 (by injection e with e; exact e.symm)), po.turn (st3_only _ _ _) (Or.inl rfl), hi⟩
theorem KpS.pool (s : KpS W w bp gh hs h A n c B m d p) : PoolA w A n c B m d p := s.po.pool
theorem KpS.grow {hs' : List Bool} (s : KpS W w bp gh hs h A n c B m d p) (g : w.grownBy w' (some gh)) (r : HasB w' gh hs') : KpS W w' bp gh hs' h A n c B m d p :=
  ⟨⟨g.os.trans s.bel.os, g.tape.trans s.bel.tape, g.output.trans s.bel.output, Nat.le_trans s.bel.size g.size, fun k hk => (g.block k (Nat.lt_of_lt_of_le hk s.bel.size) (fun e => by injection e with e; have := s.lo; omega)).trans (s.bel.block k hk)⟩, s.lo, s.box.grown g (fun e => s.lo.2.2 (by injection e)), r, s.po.turn g (Or.inr rfl), s.hi⟩
theorem KpS.take {top t : Nat} {hs2 : List Bool} (s : KpS W w bp gh hs h A n c B m d p) (kp : KpP p top t hs2) (ht : top ≤ 1000) (N : Int) (hN : -9223372036854775808 ≤ N ∧ N ≤ 9223372036854775807) :
    Calls Try.prog 19 #[.agg #[.int .i64 h, .slice A n c, .slice B m d], .int .i64 (top : Int), .int .i64 N] w fun e w' => ∃ h' A' n' c' B' m' d' L nl cl, e = .returned (.tuple #[.agg #[.int .i64 h', .slice A' n' c', .slice B' m' d'], .slice L nl cl, .bool (decide (0 ≤ N ∧ N ≤ roomP p top))]) ∧ Below w.heap.size w w' ∧
      (0 ≤ N ∧ N ≤ roomP p top → (takeP p N.toNat).hi = h' ∧ PoolU (fun g => g = bp ∨ g = gh) w' A' n' c' B' m' d' (takeP p N.toNat) ∧ w'.ownsRow w.heap.size 3 1 (.slice L nl cl) nl ((takenP p N.toNat).map (Value.int .i64))) ∧
      (¬ (0 ≤ N ∧ N ≤ roomP p top) → p.hi = h' ∧ PoolU (fun g => g = bp ∨ g = gh) w' A' n' c' B' m' d' p ∧ nl = 0) :=
  oTake13_u (fun g => g = bp ∨ g = gh) p h top N s.hi s.po (fun g hg => hg.elim (fun e => e ▸ s.box.lt) (fun e => e ▸ Has.lt s.row)) (kp.small ht) (by omega) hN
theorem KpS.room {top t : Nat} {hs2 : List Bool} (s : KpS W w bp gh hs h A n c B m d p) (kp : KpP p top t hs2) (ht : top ≤ 1000) :
    Calls Try.prog 12 #[.agg #[.int .i64 h, .slice A n c, .slice B m d], .int .i64 (top : Int)] w fun e w' => e = .returned (.int .i64 (roomP p top)) ∧ KpS W w' bp gh hs h A n c B m d p :=
  (oRoom13_any p h top s.hi s.pool (kp.small ht) (by omega)).mono (fun e w' ⟨h1, h2⟩ => ⟨h1, s.below h2⟩)
theorem KpS.check {top t : Nat} (s : KpS W w bp gh hs h A n c B m d p) (kp : KpP p top t hs) (ht : top ≤ 1000) :
    Calls Try.prog 10 #[.agg #[.int .i64 h, .slice A n c, .slice B m d], .int .i64 (top : Int)] w fun e w' => e = .returned (.bool true) ∧ KpS W w' bp gh hs h A n c B m d p := by
  have h0 := oCheck13_any p h top s.hi s.pool (kp.small ht)
  rw [checkP_iff.2 kp.ok] at h0
  exact h0.mono (fun e w' ⟨h1, h2⟩ => ⟨h1, s.below h2⟩)
theorem KpS.waits {top t : Nat} (s : KpS W w bp gh hs h A n c B m d p) (kp : KpP p top t hs) (ht : top ≤ 1000) :
    Calls Try.prog 14 #[.agg #[.int .i64 h, .slice A n c, .slice B m d]] w fun e w' => e = .returned (.int .i64 ((catZ p.wait).length : Int)) ∧ KpS W w' bp gh hs h A n c B m d p :=
  (oWait13_any p h s.hi s.pool (kp.small ht)).mono (fun e w' ⟨h1, h2⟩ => ⟨h1, s.below h2⟩)
theorem KpS.list {top t : Nat} (s : KpS W w bp gh hs h A n c B m d p) (kp : KpP p top t hs) (ht : top ≤ 1000) :
    Calls Try.prog 17 #[.agg #[.int .i64 h, .slice A n c, .slice B m d]] w fun e w' => ∃ L c7, e = .returned (.slice L (listedP p).length c7) ∧ KpS W w' bp gh hs h A n c B m d p :=
  (oList13_any p h s.hi s.pool (kp.small ht)).mono (fun e w' ⟨L, nl, cl, h1, h2, h3⟩ => ⟨L, cl, by rw [h1, h2.len], s.below h3⟩)
theorem KpS.rel {top t : Nat} (s : KpS W w bp gh hs h A n c B m d p) (kp : KpP p top t hs) (ht : top ≤ 1000) (o : Nat) (ho : o < 2 ^ 64) (held : Bool) :
    Calls Try.prog 21 #[.agg #[.int .i64 h, .slice A n c, .slice B m d], .int .u64 (o : Int), .bool held] w fun e w' => ∃ A' n' c' B' m' d', e = .returned (.agg #[.int .i64 h, .slice A' n' c', .slice B' m' d']) ∧ KpS W w' bp gh hs h A n c B m d p ∧ KpS W (st3 w' bp (.int .i64 h) (.slice A' n' c') (.slice B' m' d')) bp gh hs h A' n' c' B' m' d' (relP p o held) :=
  (oRel13_u (fun g => g = bp ∨ g = gh) p h o held (fun g hg => hg.elim (fun e => e ▸ s.box.lt) (fun e => e ▸ Has.lt s.row)) kp.ok.txn ho s.po (kp.small ht)).mono (fun e w' ⟨A', n', c', B', m', d', h1, h2, h3⟩ => ⟨A', n', c', B', m', d', h1, s.below h3, (s.below h3).put h2 s.hi⟩)
theorem KpS.give {top t : Nat} {hs2 : List Bool} (s : KpS W w bp gh hs h A n c B m d p) (kp : KpP p top t hs2) (ht : top ≤ 1000) (o : Nat) (hto : t ≤ o) (ho : o < 2 ^ 64) {pg : List Int} {L : Option Addr} {nl cl : Nat} (hl : RowZ w L nl cl pg) (hn : nl ≤ 100000) :
    Calls Try.prog 20 #[.agg #[.int .i64 h, .slice A n c, .slice B m d], .int .u64 (o : Int), .slice L nl cl] w fun e w' => ∃ A' n' c' B' m' d', e = .returned (.agg #[.int .i64 h, .slice A' n' c', .slice B' m' d']) ∧ KpS W w' bp gh hs h A n c B m d p ∧ KpS W (st3 w' bp (.int .i64 h) (.slice A' n' c') (.slice B' m' d')) bp gh hs h A' n' c' B' m' d' (giveP p o pg) :=
  (oGive13_u (fun g => g = bp ∨ g = gh) p h o pg L nl cl (fun g hg => hg.elim (fun e => e ▸ s.box.lt) (fun e => e ▸ Has.lt s.row)) (fun x hx => by have := kp.last x hx; omega) ho s.po hl (kp.small ht) hn).mono (fun e w' ⟨A', n', c', B', m', d', h1, h2, h3⟩ => ⟨A', n', c', B', m', d', h1, s.below h3, (s.below h3).put h2 ((giveP_hi _ _ _).trans s.hi)⟩)
theorem KpS.at {k : Nat} (s : KpS W w bp gh hs h A n c B m d p) (hk : k < hs.length) : w.cell? ⟨gh, k, none⟩ = some (.bool (hs.getD k false)) := s.row.at hk
end
theorem grown_own13 {w0 w w' : World} {k : Option Nat} {b : Nat} {e : TypeId} {sz m : Nat} {v : Value} {xs : List Value} (h : w0.grownBy w k) (ho : w.ownsRow b e sz v m xs) (hb : w0.heap.size ≤ b) (hg : w.grownBy w' v.ownBlock) : w0.grownBy w' k :=
  ⟨hg.os.trans h.os, hg.tape.trans h.tape, hg.output.trans h.output, Nat.le_trans h.size hg.size, fun j hj hne => (hg.block j (Nat.lt_of_lt_of_le hj h.size) (fun e => by have := (ho.lt j e.symm).1; omega)).trans (h.block j hj hne)⟩
theorem grown_alloc13 {w0 w : World} {k : Option Nat} (h : w0.grownBy w k) (o : Obj) : w0.grownBy (w.alloc o) k :=
  ⟨h.os, h.tape, h.output, Nat.le_trans h.size (by simp), fun j hj hne => (Below.heap_alloc w o j (Nat.lt_of_lt_of_le hj h.size)).trans (h.block j hj hne)⟩
theorem KpS.start {W w1 : World} (b : Below W.heap.size W w1) (n : Nat) : KpS W ((w1.alloc (.cells #[.int .i64 2, .slice none 0 0, .slice none 0 0] 25)).alloc (.cells (madeCells #[.bool false] n) 4)) w1.heap.size (w1.heap.size + 1) (List.replicate n false) 2 none 0 0 none 0 0 ⟨2, [], []⟩ := by
  have e : (w1.alloc (.cells #[.int .i64 2, .slice none 0 0, .slice none 0 0] 25)).heap.size = w1.heap.size + 1 := by simp
  have h1 := b.size
  refine ⟨(b.alloc h1 _).alloc (by omega) _, ⟨h1, by omega, by omega⟩, (Has.made w1 _ _).alloc _, ?_, fun w2 _ _ => ⟨RowZ.none_ w2, ⟨rfl, fun h => absurd h (by omega), Nat.le_refl _, Nat.zero_le _, fun x hx => absurd hx (by simp)⟩⟩, rfl⟩
  rw [← e]
  exact HasB.start _ n
end Go.Proofs.Ytoelojlabmconaa
end
