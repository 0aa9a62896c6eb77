import Derived.Test.YtpikcodnonodlaaDoorJMtl
import Derived.Test.YtpikcodnonodlaaDoorJMth
import Derived.Test.YtpikcodnonodlaaDoorJ02
/- Of a claim's texts, joined: Mtn Mto Mtp. No statement but in the last. -/
section
namespace Go.Proofs.YtpikcodnonodlaaDoor
open Go.RowKit
set_option linter.unusedVariables false

set_option maxRecDepth 100000 in
set_option maxHeartbeats 8000000 in
theorem r10counts_any (b : List UInt8) (slot : Nat) (lab : Int) (w : World) (hbl : b.length ≤ 1000000) (hsl : slot ≤ 1) :
    Calls Tryd.prog 33 #[.string ⟨b.toArray⟩, .int .i64 (slot : Int), .int .i64 lab] w (NewM10 (countM b slot lab) w) := by
  have hz := zero_rmeta
  obtain ⟨W, hW, hb, hh, hs⟩ := mbox0 w 32
  have HB := Lib.hid hb
  have HH := Lib.hid hh
  have HG := Lib.hid (r10Get_any b W hbl)
  have HT : Hid ((getM b).1.txn < 18446744073709551616) := Lib.hid (getM_txn b)
  have HY : Hid (((getM b).2 = 0 ∧ (getM b).1.label = lab ∧ (getM b).1.txn % 2 = slot) → countM b slot lab = ((getM b).1, true)) := Lib.hid (fun h => countM_yes h)
  have HN : Hid (¬ ((getM b).2 = 0 ∧ (getM b).1.label = lab ∧ (getM b).1.txn % 2 = slot) → countM b slot lab = (mt0, false)) := Lib.hid (fun h => countM_no h)
  generalize countM b slot lab = res at HY HN ⊢
  generalize getM b = ga at HG HT HY HN
  obtain ⟨⟨l, t, r, s, g⟩, er⟩ := ga
  simp only at HT HY HN
  unfold GetM10 mtV at HG
  have HS := Lib.hid (fun w1 => r10Slot_any t w1 HT.out)
  obtain ⟨bs, hbs⟩ : ∃ bs : ByteArray, (⟨b.toArray⟩ : ByteArray) = bs := ⟨_, rfl⟩
  rw [hbs] at HG ⊢
  clear hb hh hs hbs
  by_cases z1 : er = 0
  rotate_left
  · have HD := Lib.hid (HN.out (fun hh => z1 hh.1))
    have hq1 : (er != 0) = true := by simpa using z1
    have hq2 : (er == 0) = false := by simpa using z1
    go_enter Tryd.func33, Tryd.ntmps33
    go_wp2_with (first
      | (go_at_call 17; (try rw [hW]); (with_reducible refine HG.out.mono ?_); rintro r1 w1 ⟨rfl, b1⟩; have X1 := Lib.hid (HH.out.below b1 HH.out.lt); have B1 := Lib.hid (below_step HB.out b1); obtain ⟨w2, hw2⟩ : ∃ w2, w1.alloc (.cells #[.int .i64 l, .int .u64 (t : Int), .int .i64 r, .int .i64 s, .int .i64 g] 32) = w2 := ⟨_, rfl⟩; have y2 := hw2 ▸ Has.made w1 32 #[.int .i64 l, .int .u64 (t : Int), .int .i64 r, .int .i64 s, .int .i64 g]; have b2 : Below w1.heap.size w1 w2 := hw2 ▸ (Below.refl _ w1).alloc (Nat.le_refl _) _; have x2 := X1.out.below b2 X1.out.lt; have fx0 := x2.free 0; have fx1 := x2.free 1; have fx2 := x2.free 2; have fx3 := x2.free 3; have fx4 := x2.free 4; have cx0 := x2.cell 0; have cx1 := x2.cell 1; have cx2 := x2.cell 2; have cx3 := x2.cell 3; have cx4 := x2.cell 4; have n0 := y2.cell 0; have n1 := y2.cell 1; have n2 := y2.cell 2; have n3 := y2.cell 3; have n4 := y2.cell 4; have X2 := Lib.hid x2; have B2 := Lib.hid (below_step B1.out b2); clear b1 b2 y2 x2)
      | (go_at_call 15; (with_reducible refine (HS.out _).mono ?_); rintro r3 w3 ⟨rfl, rfl⟩))
    have XE := X2.out.setM (.int .i64 0) (.int .u64 0) (.int .i64 0) (.int .i64 0) (.int .i64 0)
    have q0 := XE.cell 0
    have q1 := XE.cell 1
    have q2 := XE.cell 2
    have q3 := XE.cell 3
    have q4 := XE.cell 4
    unfold stM5 at q0 q1 q2 q3 q4
    refine ⟨rfl, .tuple #[.agg #[.int .i64 0, .int .u64 0, .int .i64 0, .int .i64 0, .int .i64 0], .bool false], ?_, by rw [HD.out]; rfl, below_setM B2.out (Nat.le_refl _) (.int .i64 0) (.int .u64 0) (.int .i64 0) (.int .i64 0) (.int .i64 0)⟩
    simp at q0 q1 q2 q3 q4
    simp [results, Tryd.f33, go_sem, q0, q1, q2, q3, q4]
  subst z1
  by_cases z2 : l = lab
  rotate_left
  · have HD := Lib.hid (HN.out (fun hh => z2 hh.2.1))
    have hq1 : (l != lab) = true := by simpa using z2
    have hq2 : (l == lab) = false := by simpa using z2
    go_enter Tryd.func33, Tryd.ntmps33
    go_wp2_with (first
      | (go_at_call 17; (try rw [hW]); (with_reducible refine HG.out.mono ?_); rintro r1 w1 ⟨rfl, b1⟩; have X1 := Lib.hid (HH.out.below b1 HH.out.lt); have B1 := Lib.hid (below_step HB.out b1); obtain ⟨w2, hw2⟩ : ∃ w2, w1.alloc (.cells #[.int .i64 l, .int .u64 (t : Int), .int .i64 r, .int .i64 s, .int .i64 g] 32) = w2 := ⟨_, rfl⟩; have y2 := hw2 ▸ Has.made w1 32 #[.int .i64 l, .int .u64 (t : Int), .int .i64 r, .int .i64 s, .int .i64 g]; have b2 : Below w1.heap.size w1 w2 := hw2 ▸ (Below.refl _ w1).alloc (Nat.le_refl _) _; have x2 := X1.out.below b2 X1.out.lt; have fx0 := x2.free 0; have fx1 := x2.free 1; have fx2 := x2.free 2; have fx3 := x2.free 3; have fx4 := x2.free 4; have cx0 := x2.cell 0; have cx1 := x2.cell 1; have cx2 := x2.cell 2; have cx3 := x2.cell 3; have cx4 := x2.cell 4; have n0 := y2.cell 0; have n1 := y2.cell 1; have n2 := y2.cell 2; have n3 := y2.cell 3; have n4 := y2.cell 4; have X2 := Lib.hid x2; have B2 := Lib.hid (below_step B1.out b2); clear b1 b2 y2 x2)
      | (go_at_call 15; (with_reducible refine (HS.out _).mono ?_); rintro r3 w3 ⟨rfl, rfl⟩))
    have XE := X2.out.setM (.int .i64 0) (.int .u64 0) (.int .i64 0) (.int .i64 0) (.int .i64 0)
    have q0 := XE.cell 0
    have q1 := XE.cell 1
    have q2 := XE.cell 2
    have q3 := XE.cell 3
    have q4 := XE.cell 4
    unfold stM5 at q0 q1 q2 q3 q4
    refine ⟨rfl, .tuple #[.agg #[.int .i64 0, .int .u64 0, .int .i64 0, .int .i64 0, .int .i64 0], .bool false], ?_, by rw [HD.out]; rfl, below_setM B2.out (Nat.le_refl _) (.int .i64 0) (.int .u64 0) (.int .i64 0) (.int .i64 0) (.int .i64 0)⟩
    simp at q0 q1 q2 q3 q4
    simp [results, Tryd.f33, go_sem, q0, q1, q2, q3, q4]
  subst z2
  by_cases z3 : t % 2 = slot
  rotate_left
  · have HD := Lib.hid (HN.out (fun hh => z3 hh.2.2))
    have hq1 : ((t : Int) % 2 != (slot : Int)) = true := by simp; omega
    have hq2 : ((t : Int) % 2 == (slot : Int)) = false := by simp; omega
    go_enter Tryd.func33, Tryd.ntmps33
    go_wp2_with (first
      | (go_at_call 17; (try rw [hW]); (with_reducible refine HG.out.mono ?_); rintro r1 w1 ⟨rfl, b1⟩; have X1 := Lib.hid (HH.out.below b1 HH.out.lt); have B1 := Lib.hid (below_step HB.out b1); obtain ⟨w2, hw2⟩ : ∃ w2, w1.alloc (.cells #[.int .i64 l, .int .u64 (t : Int), .int .i64 r, .int .i64 s, .int .i64 g] 32) = w2 := ⟨_, rfl⟩; have y2 := hw2 ▸ Has.made w1 32 #[.int .i64 l, .int .u64 (t : Int), .int .i64 r, .int .i64 s, .int .i64 g]; have b2 : Below w1.heap.size w1 w2 := hw2 ▸ (Below.refl _ w1).alloc (Nat.le_refl _) _; have x2 := X1.out.below b2 X1.out.lt; have fx0 := x2.free 0; have fx1 := x2.free 1; have fx2 := x2.free 2; have fx3 := x2.free 3; have fx4 := x2.free 4; have cx0 := x2.cell 0; have cx1 := x2.cell 1; have cx2 := x2.cell 2; have cx3 := x2.cell 3; have cx4 := x2.cell 4; have n0 := y2.cell 0; have n1 := y2.cell 1; have n2 := y2.cell 2; have n3 := y2.cell 3; have n4 := y2.cell 4; have X2 := Lib.hid x2; have B2 := Lib.hid (below_step B1.out b2); clear b1 b2 y2 x2)
      | (go_at_call 15; (with_reducible refine (HS.out _).mono ?_); rintro r3 w3 ⟨rfl, rfl⟩))
    have XE := X2.out.setM (.int .i64 0) (.int .u64 0) (.int .i64 0) (.int .i64 0) (.int .i64 0)
    have q0 := XE.cell 0
    have q1 := XE.cell 1
    have q2 := XE.cell 2
    have q3 := XE.cell 3
    have q4 := XE.cell 4
    unfold stM5 at q0 q1 q2 q3 q4
    refine ⟨rfl, .tuple #[.agg #[.int .i64 0, .int .u64 0, .int .i64 0, .int .i64 0, .int .i64 0], .bool false], ?_, by rw [HD.out]; rfl, below_setM B2.out (Nat.le_refl _) (.int .i64 0) (.int .u64 0) (.int .i64 0) (.int .i64 0) (.int .i64 0)⟩
    simp at q0 q1 q2 q3 q4
    simp [results, Tryd.f33, go_sem, q0, q1, q2, q3, q4]
  have HD := Lib.hid (HY.out ⟨rfl, rfl, z3⟩)
  have hq1 : ((t : Int) % 2 != (slot : Int)) = false := by simp; omega
  have hq2 : ((t : Int) % 2 == (slot : Int)) = true := by simp; omega
  go_enter Tryd.func33, Tryd.ntmps33
  go_wp2_with (first
    | (go_at_call 17; (try rw [hW]); (with_reducible refine HG.out.mono ?_); rintro r1 w1 ⟨rfl, b1⟩; have X1 := Lib.hid (HH.out.below b1 HH.out.lt); have B1 := Lib.hid (below_step HB.out b1); obtain ⟨w2, hw2⟩ : ∃ w2, w1.alloc (.cells #[.int .i64 l, .int .u64 (t : Int), .int .i64 r, .int .i64 s, .int .i64 g] 32) = w2 := ⟨_, rfl⟩; have y2 := hw2 ▸ Has.made w1 32 #[.int .i64 l, .int .u64 (t : Int), .int .i64 r, .int .i64 s, .int .i64 g]; have b2 : Below w1.heap.size w1 w2 := hw2 ▸ (Below.refl _ w1).alloc (Nat.le_refl _) _; have x2 := X1.out.below b2 X1.out.lt; have fx0 := x2.free 0; have fx1 := x2.free 1; have fx2 := x2.free 2; have fx3 := x2.free 3; have fx4 := x2.free 4; have cx0 := x2.cell 0; have cx1 := x2.cell 1; have cx2 := x2.cell 2; have cx3 := x2.cell 3; have cx4 := x2.cell 4; have n0 := y2.cell 0; have n1 := y2.cell 1; have n2 := y2.cell 2; have n3 := y2.cell 3; have n4 := y2.cell 4; have X2 := Lib.hid x2; have B2 := Lib.hid (below_step B1.out b2); clear b1 b2 y2 x2)
    | (go_at_call 15; (with_reducible refine (HS.out _).mono ?_); rintro r3 w3 ⟨rfl, rfl⟩))
  have XE := X2.out.setM (.int .i64 l) (.int .u64 (t : Int)) (.int .i64 r) (.int .i64 s) (.int .i64 g)
  have q0 := XE.cell 0
  have q1 := XE.cell 1
  have q2 := XE.cell 2
  have q3 := XE.cell 3
  have q4 := XE.cell 4
  unfold stM5 at q0 q1 q2 q3 q4
  refine ⟨rfl, .tuple #[.agg #[.int .i64 l, .int .u64 (t : Int), .int .i64 r, .int .i64 s, .int .i64 g], .bool true], ?_, by rw [HD.out]; rfl, below_setM B2.out (Nat.le_refl _) (.int .i64 l) (.int .u64 (t : Int)) (.int .i64 r) (.int .i64 s) (.int .i64 g)⟩
  simp at q0 q1 q2 q3 q4
  simp [results, Tryd.f33, go_sem, q0, q1, q2, q3, q4]
set_option maxRecDepth 100000 in
set_option maxHeartbeats 8000000 in
theorem r10Newest_any (a b : List UInt8) (lab : Int) (w : World) (hal : a.length ≤ 1000000) (hbl : b.length ≤ 1000000) :
    Calls Tryd.prog 19 #[.string ⟨a.toArray⟩, .string ⟨b.toArray⟩, .int .i64 lab] w (NewM10 (newestM a b lab) w) := by
  have hz := zero_rmeta
  obtain ⟨W, hW, hb, hh, hs⟩ := mbox0 w 32
  have HB := Lib.hid hb
  have HH := Lib.hid hh
  have HG0 : Hid (Calls Tryd.prog 33 #[.string ⟨a.toArray⟩, .int .i64 0, .int .i64 lab] W (NewM10 (countM a 0 lab) W)) := Lib.hid (r10counts_any a 0 lab W hal (by omega))
  have HG1 : Hid (∀ w1, Calls Tryd.prog 33 #[.string ⟨b.toArray⟩, .int .i64 1, .int .i64 lab] w1 (NewM10 (countM b 1 lab) w1)) := Lib.hid (fun w1 => r10counts_any b 1 lab w1 hbl (by omega))
  have HR : Hid (newestM a b lab = newerM (countM a 0 lab) (countM b 1 lab)) := Lib.hid rfl
  generalize newestM a b lab = res at HR ⊢
  generalize countM a 0 lab = x at HG0 HR
  generalize countM b 1 lab = y at HG1 HR
  obtain ⟨⟨l0, t0, r0, s0, g0⟩, f0⟩ := x
  obtain ⟨⟨l1, t1, r1, s1, g1⟩, f1⟩ := y
  unfold NewM10 mtV at HG0 HG1
  obtain ⟨sa, has⟩ : ∃ sa : ByteArray, (⟨a.toArray⟩ : ByteArray) = sa := ⟨_, rfl⟩
  obtain ⟨bs, hbs⟩ : ∃ bs : ByteArray, (⟨b.toArray⟩ : ByteArray) = bs := ⟨_, rfl⟩
  rw [has] at HG0 ⊢
  rw [hbs] at HG1 ⊢
  clear hb hh hs hbs has
  cases f1
  · have HD : Hid (res = (⟨l0, t0, r0, s0, g0⟩, f0)) := Lib.hid (HR.out.trans (by unfold newerM; rw [if_neg (by simp)]))
    clear HR
    go_enter Tryd.func19, Tryd.ntmps19
    go_wp2_with (first
      | (go_at_call 33; (try rw [HW2.out]); (with_reducible refine (HG1.out _).mono ?_); rintro q3 w3 ⟨rfl, b3⟩; have X3 := Lib.hid (X2.out.below b3 X2.out.lt); have Y3 := Lib.hid (Y2.out.below b3 Y2.out.lt); have B3 := Lib.hid (below_step B2.out b3); obtain ⟨w4, hw4⟩ : ∃ w4, w3.alloc (.cells #[.int .i64 l1, .int .u64 (t1 : Int), .int .i64 r1, .int .i64 s1, .int .i64 g1] 32) = w4 := ⟨_, rfl⟩; have z4 := hw4 ▸ Has.made w3 32 #[.int .i64 l1, .int .u64 (t1 : Int), .int .i64 r1, .int .i64 s1, .int .i64 g1]; have b4 : Below w3.heap.size w3 w4 := hw4 ▸ (Below.refl _ w3).alloc (Nat.le_refl _) _; have x4 := X3.out.below b4 X3.out.lt; have y4 := Y3.out.below b4 Y3.out.lt; have fx0 := x4.free 0; have fx1 := x4.free 1; have fx2 := x4.free 2; have fx3 := x4.free 3; have fx4 := x4.free 4; have cx0 := x4.cell 0; have cx1 := x4.cell 1; have cx2 := x4.cell 2; have cx3 := x4.cell 3; have cx4 := x4.cell 4; have n0 := y4.cell 0; have n1 := y4.cell 1; have n2 := y4.cell 2; have n3 := y4.cell 3; have n4 := y4.cell 4; have m0 := z4.cell 0; have m1 := z4.cell 1; have m2 := z4.cell 2; have m3 := z4.cell 3; have m4 := z4.cell 4; have X4 := Lib.hid x4; have B4 := Lib.hid (below_step B3.out b4); clear b3 b4 x4 y4 z4)
      | (go_at_call 33; (try rw [hW]); (with_reducible refine HG0.out.mono ?_); rintro q1 w1 ⟨rfl, b1⟩; have X1 := Lib.hid (HH.out.below b1 HH.out.lt); have B1 := Lib.hid (below_step HB.out b1); obtain ⟨w2, hw2⟩ : ∃ w2, w1.alloc (.cells #[.int .i64 l0, .int .u64 (t0 : Int), .int .i64 r0, .int .i64 s0, .int .i64 g0] 32) = w2 := ⟨_, rfl⟩; have y2 := hw2 ▸ Has.made w1 32 #[.int .i64 l0, .int .u64 (t0 : Int), .int .i64 r0, .int .i64 s0, .int .i64 g0]; have b2 : Below w1.heap.size w1 w2 := hw2 ▸ (Below.refl _ w1).alloc (Nat.le_refl _) _; have X2 := Lib.hid (X1.out.below b2 X1.out.lt); have B2 := Lib.hid (below_step B1.out b2); have Y2 := Lib.hid y2; have HW2 := Lib.hid hw2; clear b1 b2 y2 hw2))
    have XE := X4.out.setM (.int .i64 l0) (.int .u64 (t0 : Int)) (.int .i64 r0) (.int .i64 s0) (.int .i64 g0)
    have q0 := XE.cell 0
    have q1 := XE.cell 1
    have q2 := XE.cell 2
    have q3 := XE.cell 3
    have q4 := XE.cell 4
    unfold stM5 at q0 q1 q2 q3 q4
    refine ⟨rfl, .tuple #[.agg #[.int .i64 l0, .int .u64 (t0 : Int), .int .i64 r0, .int .i64 s0, .int .i64 g0], .bool f0], ?_, by rw [HD.out]; rfl, below_setM B4.out (Nat.le_refl _) (.int .i64 l0) (.int .u64 (t0 : Int)) (.int .i64 r0) (.int .i64 s0) (.int .i64 g0)⟩
    simp at q0 q1 q2 q3 q4
    simp [results, Tryd.f19, go_sem, q0, q1, q2, q3, q4]
  cases f0
  · have HD : Hid (res = (⟨l1, t1, r1, s1, g1⟩, true)) := Lib.hid (HR.out.trans (by unfold newerM; rw [if_pos (by simp)]))
    clear HR
    go_enter Tryd.func19, Tryd.ntmps19
    go_wp2_with (first
      | (go_at_call 33; (try rw [HW2.out]); (with_reducible refine (HG1.out _).mono ?_); rintro q3 w3 ⟨rfl, b3⟩; have X3 := Lib.hid (X2.out.below b3 X2.out.lt); have Y3 := Lib.hid (Y2.out.below b3 Y2.out.lt); have B3 := Lib.hid (below_step B2.out b3); obtain ⟨w4, hw4⟩ : ∃ w4, w3.alloc (.cells #[.int .i64 l1, .int .u64 (t1 : Int), .int .i64 r1, .int .i64 s1, .int .i64 g1] 32) = w4 := ⟨_, rfl⟩; have z4 := hw4 ▸ Has.made w3 32 #[.int .i64 l1, .int .u64 (t1 : Int), .int .i64 r1, .int .i64 s1, .int .i64 g1]; have b4 : Below w3.heap.size w3 w4 := hw4 ▸ (Below.refl _ w3).alloc (Nat.le_refl _) _; have x4 := X3.out.below b4 X3.out.lt; have y4 := Y3.out.below b4 Y3.out.lt; have fx0 := x4.free 0; have fx1 := x4.free 1; have fx2 := x4.free 2; have fx3 := x4.free 3; have fx4 := x4.free 4; have cx0 := x4.cell 0; have cx1 := x4.cell 1; have cx2 := x4.cell 2; have cx3 := x4.cell 3; have cx4 := x4.cell 4; have n0 := y4.cell 0; have n1 := y4.cell 1; have n2 := y4.cell 2; have n3 := y4.cell 3; have n4 := y4.cell 4; have m0 := z4.cell 0; have m1 := z4.cell 1; have m2 := z4.cell 2; have m3 := z4.cell 3; have m4 := z4.cell 4; have X4 := Lib.hid x4; have B4 := Lib.hid (below_step B3.out b4); clear b3 b4 x4 y4 z4)
      | (go_at_call 33; (try rw [hW]); (with_reducible refine HG0.out.mono ?_); rintro q1 w1 ⟨rfl, b1⟩; have X1 := Lib.hid (HH.out.below b1 HH.out.lt); have B1 := Lib.hid (below_step HB.out b1); obtain ⟨w2, hw2⟩ : ∃ w2, w1.alloc (.cells #[.int .i64 l0, .int .u64 (t0 : Int), .int .i64 r0, .int .i64 s0, .int .i64 g0] 32) = w2 := ⟨_, rfl⟩; have y2 := hw2 ▸ Has.made w1 32 #[.int .i64 l0, .int .u64 (t0 : Int), .int .i64 r0, .int .i64 s0, .int .i64 g0]; have b2 : Below w1.heap.size w1 w2 := hw2 ▸ (Below.refl _ w1).alloc (Nat.le_refl _) _; have X2 := Lib.hid (X1.out.below b2 X1.out.lt); have B2 := Lib.hid (below_step B1.out b2); have Y2 := Lib.hid y2; have HW2 := Lib.hid hw2; clear b1 b2 y2 hw2))
    have XE := X4.out.setM (.int .i64 l1) (.int .u64 (t1 : Int)) (.int .i64 r1) (.int .i64 s1) (.int .i64 g1)
    have q0 := XE.cell 0
    have q1 := XE.cell 1
    have q2 := XE.cell 2
    have q3 := XE.cell 3
    have q4 := XE.cell 4
    unfold stM5 at q0 q1 q2 q3 q4
    refine ⟨rfl, .tuple #[.agg #[.int .i64 l1, .int .u64 (t1 : Int), .int .i64 r1, .int .i64 s1, .int .i64 g1], .bool true], ?_, by rw [HD.out]; rfl, below_setM B4.out (Nat.le_refl _) (.int .i64 l1) (.int .u64 (t1 : Int)) (.int .i64 r1) (.int .i64 s1) (.int .i64 g1)⟩
    simp at q0 q1 q2 q3 q4
    simp [results, Tryd.f19, go_sem, q0, q1, q2, q3, q4]
  by_cases z : t0 < t1
  · have hq : (t0 : Int) < (t1 : Int) := by omega
    have HD : Hid (res = (⟨l1, t1, r1, s1, g1⟩, true)) := Lib.hid (HR.out.trans (by unfold newerM; rw [if_pos (by simp [z])]))
    clear HR
    go_enter Tryd.func19, Tryd.ntmps19
    go_wp2_with (first
      | (go_at_call 33; (try rw [HW2.out]); (with_reducible refine (HG1.out _).mono ?_); rintro q3 w3 ⟨rfl, b3⟩; have X3 := Lib.hid (X2.out.below b3 X2.out.lt); have Y3 := Lib.hid (Y2.out.below b3 Y2.out.lt); have B3 := Lib.hid (below_step B2.out b3); obtain ⟨w4, hw4⟩ : ∃ w4, w3.alloc (.cells #[.int .i64 l1, .int .u64 (t1 : Int), .int .i64 r1, .int .i64 s1, .int .i64 g1] 32) = w4 := ⟨_, rfl⟩; have z4 := hw4 ▸ Has.made w3 32 #[.int .i64 l1, .int .u64 (t1 : Int), .int .i64 r1, .int .i64 s1, .int .i64 g1]; have b4 : Below w3.heap.size w3 w4 := hw4 ▸ (Below.refl _ w3).alloc (Nat.le_refl _) _; have x4 := X3.out.below b4 X3.out.lt; have y4 := Y3.out.below b4 Y3.out.lt; have fx0 := x4.free 0; have fx1 := x4.free 1; have fx2 := x4.free 2; have fx3 := x4.free 3; have fx4 := x4.free 4; have cx0 := x4.cell 0; have cx1 := x4.cell 1; have cx2 := x4.cell 2; have cx3 := x4.cell 3; have cx4 := x4.cell 4; have n0 := y4.cell 0; have n1 := y4.cell 1; have n2 := y4.cell 2; have n3 := y4.cell 3; have n4 := y4.cell 4; have m0 := z4.cell 0; have m1 := z4.cell 1; have m2 := z4.cell 2; have m3 := z4.cell 3; have m4 := z4.cell 4; have X4 := Lib.hid x4; have B4 := Lib.hid (below_step B3.out b4); clear b3 b4 x4 y4 z4)
      | (go_at_call 33; (try rw [hW]); (with_reducible refine HG0.out.mono ?_); rintro q1 w1 ⟨rfl, b1⟩; have X1 := Lib.hid (HH.out.below b1 HH.out.lt); have B1 := Lib.hid (below_step HB.out b1); obtain ⟨w2, hw2⟩ : ∃ w2, w1.alloc (.cells #[.int .i64 l0, .int .u64 (t0 : Int), .int .i64 r0, .int .i64 s0, .int .i64 g0] 32) = w2 := ⟨_, rfl⟩; have y2 := hw2 ▸ Has.made w1 32 #[.int .i64 l0, .int .u64 (t0 : Int), .int .i64 r0, .int .i64 s0, .int .i64 g0]; have b2 : Below w1.heap.size w1 w2 := hw2 ▸ (Below.refl _ w1).alloc (Nat.le_refl _) _; have X2 := Lib.hid (X1.out.below b2 X1.out.lt); have B2 := Lib.hid (below_step B1.out b2); have Y2 := Lib.hid y2; have HW2 := Lib.hid hw2; clear b1 b2 y2 hw2))
    have XE := X4.out.setM (.int .i64 l1) (.int .u64 (t1 : Int)) (.int .i64 r1) (.int .i64 s1) (.int .i64 g1)
    have q0 := XE.cell 0
    have q1 := XE.cell 1
    have q2 := XE.cell 2
    have q3 := XE.cell 3
    have q4 := XE.cell 4
    unfold stM5 at q0 q1 q2 q3 q4
    refine ⟨rfl, .tuple #[.agg #[.int .i64 l1, .int .u64 (t1 : Int), .int .i64 r1, .int .i64 s1, .int .i64 g1], .bool true], ?_, by rw [HD.out]; rfl, below_setM B4.out (Nat.le_refl _) (.int .i64 l1) (.int .u64 (t1 : Int)) (.int .i64 r1) (.int .i64 s1) (.int .i64 g1)⟩
    simp at q0 q1 q2 q3 q4
    simp [results, Tryd.f19, go_sem, q0, q1, q2, q3, q4]
  · have hq : ¬ (t0 : Int) < (t1 : Int) := by omega
    have HD : Hid (res = (⟨l0, t0, r0, s0, g0⟩, true)) := Lib.hid (HR.out.trans (by unfold newerM; rw [if_neg (by simp [z])]))
    clear HR
    go_enter Tryd.func19, Tryd.ntmps19
    go_wp2_with (first
      | (go_at_call 33; (try rw [HW2.out]); (with_reducible refine (HG1.out _).mono ?_); rintro q3 w3 ⟨rfl, b3⟩; have X3 := Lib.hid (X2.out.below b3 X2.out.lt); have Y3 := Lib.hid (Y2.out.below b3 Y2.out.lt); have B3 := Lib.hid (below_step B2.out b3); obtain ⟨w4, hw4⟩ : ∃ w4, w3.alloc (.cells #[.int .i64 l1, .int .u64 (t1 : Int), .int .i64 r1, .int .i64 s1, .int .i64 g1] 32) = w4 := ⟨_, rfl⟩; have z4 := hw4 ▸ Has.made w3 32 #[.int .i64 l1, .int .u64 (t1 : Int), .int .i64 r1, .int .i64 s1, .int .i64 g1]; have b4 : Below w3.heap.size w3 w4 := hw4 ▸ (Below.refl _ w3).alloc (Nat.le_refl _) _; have x4 := X3.out.below b4 X3.out.lt; have y4 := Y3.out.below b4 Y3.out.lt; have fx0 := x4.free 0; have fx1 := x4.free 1; have fx2 := x4.free 2; have fx3 := x4.free 3; have fx4 := x4.free 4; have cx0 := x4.cell 0; have cx1 := x4.cell 1; have cx2 := x4.cell 2; have cx3 := x4.cell 3; have cx4 := x4.cell 4; have n0 := y4.cell 0; have n1 := y4.cell 1; have n2 := y4.cell 2; have n3 := y4.cell 3; have n4 := y4.cell 4; have m0 := z4.cell 0; have m1 := z4.cell 1; have m2 := z4.cell 2; have m3 := z4.cell 3; have m4 := z4.cell 4; have X4 := Lib.hid x4; have B4 := Lib.hid (below_step B3.out b4); clear b3 b4 x4 y4 z4)
      | (go_at_call 33; (try rw [hW]); (with_reducible refine HG0.out.mono ?_); rintro q1 w1 ⟨rfl, b1⟩; have X1 := Lib.hid (HH.out.below b1 HH.out.lt); have B1 := Lib.hid (below_step HB.out b1); obtain ⟨w2, hw2⟩ : ∃ w2, w1.alloc (.cells #[.int .i64 l0, .int .u64 (t0 : Int), .int .i64 r0, .int .i64 s0, .int .i64 g0] 32) = w2 := ⟨_, rfl⟩; have y2 := hw2 ▸ Has.made w1 32 #[.int .i64 l0, .int .u64 (t0 : Int), .int .i64 r0, .int .i64 s0, .int .i64 g0]; have b2 : Below w1.heap.size w1 w2 := hw2 ▸ (Below.refl _ w1).alloc (Nat.le_refl _) _; have X2 := Lib.hid (X1.out.below b2 X1.out.lt); have B2 := Lib.hid (below_step B1.out b2); have Y2 := Lib.hid y2; have HW2 := Lib.hid hw2; clear b1 b2 y2 hw2))
    have XE := X4.out.setM (.int .i64 l0) (.int .u64 (t0 : Int)) (.int .i64 r0) (.int .i64 s0) (.int .i64 g0)
    have q0 := XE.cell 0
    have q1 := XE.cell 1
    have q2 := XE.cell 2
    have q3 := XE.cell 3
    have q4 := XE.cell 4
    unfold stM5 at q0 q1 q2 q3 q4
    refine ⟨rfl, .tuple #[.agg #[.int .i64 l0, .int .u64 (t0 : Int), .int .i64 r0, .int .i64 s0, .int .i64 g0], .bool true], ?_, by rw [HD.out]; rfl, below_setM B4.out (Nat.le_refl _) (.int .i64 l0) (.int .u64 (t0 : Int)) (.int .i64 r0) (.int .i64 s0) (.int .i64 g0)⟩
    simp at q0 q1 q2 q3 q4
    simp [results, Tryd.f19, go_sem, q0, q1, q2, q3, q4]
end Go.Proofs.YtpikcodnonodlaaDoor
end

section
namespace Go.Proofs.YtpikcodnonodlaaDoor
open Go.RowKit
set_option linter.unusedVariables false

def PutEnd10 (pg : List UInt8) (w : World) (e : Ending) (w' : World) : Prop := ∃ A c, e = .returned (.tuple #[.slice A 128 c, .int .i64 0]) ∧ Arg w' A 128 c pg ∧ Row w' 5 w.heap.size A (pg.map byteV) ∧ Below w.heap.size w w'
theorem mPut_page (m : Mt) (w : World) (ht : Tab w) (hc : checkM m) (htx : m.txn < 18446744073709551616) : Calls Tryd.prog 9 #[mtV m] w (PutEnd10 (pageM m) w) :=
  (mPut_yes m w ht hc htx).mono fun e w' ⟨A, c, he, g1, g2, g3, g4⟩ => ⟨A, c, he, Arg.of_row (n := 128) g3 (pageM_len m).symm (by omega) g1 g2, g3, g4⟩
set_option maxRecDepth 100000 in
theorem plain10_any (m : Mt) (w : World) : Calls Tryd.prog 11 #[mtV m] w fun e w' => e = .returned (mtV m) ∧ Below w.heap.size w w' := by
  have hz := zero_rmeta
  obtain ⟨label, txn, root, list, high⟩ := m
  obtain ⟨W, hW⟩ : ∃ W, (w.alloc (.cells #[.int .i64 label, .int .u64 (txn : Int), .int .i64 root, .int .i64 list, .int .i64 high] 24)).alloc (.cells #[.int .i64 0, .int .u64 0, .int .i64 0, .int .i64 0, .int .i64 0] 32) = W := ⟨_, rfl⟩
  have hb : Below w.heap.size w W := hW ▸ (((Below.refl _ w).alloc (Nat.le_refl _) _).alloc (by simp) _)
  have h1 : Has W w.heap.size 24 #[.int .i64 label, .int .u64 (txn : Int), .int .i64 root, .int .i64 list, .int .i64 high] := hW ▸ (Has.made w 24 _).alloc _
  have h2 : Has W (w.heap.size + 1) 32 #[.int .i64 0, .int .u64 0, .int .i64 0, .int .i64 0, .int .i64 0] := by
    have := Has.made (w.alloc (.cells #[.int .i64 label, .int .u64 (txn : Int), .int .i64 root, .int .i64 list, .int .i64 high] 24)) 32 #[.int .i64 0, .int .u64 0, .int .i64 0, .int .i64 0, .int .i64 0]
    rw [hW] at this
    simpa using this
  have c0 := h1.cell 0
  have c1 := h1.cell 1
  have c2 := h1.cell 2
  have c3 := h1.cell 3
  have c4 := h1.cell 4
  have d0 := h2.cell 0
  have d1 := h2.cell 1
  have d2 := h2.cell 2
  have d3 := h2.cell 3
  have d4 := h2.cell 4
  have f0 := h2.free 0
  have f1 := h2.free 1
  have f2 := h2.free 2
  have f3 := h2.free 3
  have f4 := h2.free 4
  have HB := Lib.hid hb
  have H2 := Lib.hid h2
  unfold mtV
  simp only
  clear hb h1 h2
  go_enter Tryd.func11, Tryd.ntmps11
  go_wp2
  have XE := H2.out.setM (.int .i64 label) (.int .u64 (txn : Int)) (.int .i64 root) (.int .i64 list) (.int .i64 high)
  have q0 := XE.cell 0
  have q1 := XE.cell 1
  have q2 := XE.cell 2
  have q3 := XE.cell 3
  have q4 := XE.cell 4
  unfold stM5 at q0 q1 q2 q3 q4
  refine ⟨rfl, .agg #[.int .i64 label, .int .u64 (txn : Int), .int .i64 root, .int .i64 list, .int .i64 high], ?_, rfl, below_setM HB.out (by omega) (.int .i64 label) (.int .u64 (txn : Int)) (.int .i64 root) (.int .i64 list) (.int .i64 high)⟩
  simp at q0 q1 q2 q3 q4
  simp [results, Tryd.f11, go_sem, q0, q1, q2, q3, q4]

def exA : Mt := ⟨1, 4, 2, 0, 9⟩
def exB10 : Mt := ⟨1, 5, 0, 3, 9⟩
theorem exA_ok : checkM exA := by decide
theorem exB10_ok : checkM exB10 := by decide
theorem new_is : newestM (pageM exA) (pageM exB10) 1 = (exB10, true) := by
  unfold newestM
  rw [countM_page exA_ok (by decide), countM_page exB10_ok (by decide)]
  rfl
theorem new_turned : newestM (pageM exB10) (pageM exA) 1 = (mt0, false) := by
  unfold newestM
  rw [countM_page exA_ok (by decide), countM_page exB10_ok (by decide)]
  rfl
theorem new_other : newestM (pageM exA) (pageM exB10) 0 = (mt0, false) := by
  unfold newestM
  rw [countM_page exA_ok (by decide), countM_page exB10_ok (by decide)]
  rfl
set_option maxRecDepth 100000 in
set_option maxHeartbeats 8000000 in
theorem awake10_any (w : World) (ht : Tab w) : Calls Tryd.prog 8 #[] w (fun e w' => e = .returned (.bool true) ∧ Below w.heap.size w w') := by
  have hz := zero_meta
  have HT := Lib.hid ht
  have PA : Hid (∀ w1, Tab w1 → Calls Tryd.prog 9 #[.agg #[.int .i64 1, .int .u64 4, .int .i64 2, .int .i64 0, .int .i64 9]] w1 (PutEnd10 (pageM exA) w1)) := Lib.hid (fun w1 h => mPut_page exA w1 h exA_ok (by decide))
  have PB : Hid (∀ w1, Tab w1 → Calls Tryd.prog 9 #[.agg #[.int .i64 1, .int .u64 5, .int .i64 0, .int .i64 3, .int .i64 9]] w1 (PutEnd10 (pageM exB10) w1)) := Lib.hid (fun w1 h => mPut_page exB10 w1 h exB10_ok (by decide))
  have NE := Lib.hid (fun A1 A2 c1 c2 w1 ht (h1 : Arg w1 A1 128 c1 (pageM exA)) (h2 : Arg w1 A2 128 c2 (pageM exB10)) => mNewest_any A1 A2 128 c1 128 c2 (pageM exA) (pageM exB10) 1 w1 ht h1 h2)
  have NT := Lib.hid (fun A1 A2 c1 c2 w1 ht (h1 : Arg w1 A1 128 c1 (pageM exB10)) (h2 : Arg w1 A2 128 c2 (pageM exA)) => mNewest_any A1 A2 128 c1 128 c2 (pageM exB10) (pageM exA) 1 w1 ht h1 h2)
  have NO := Lib.hid (fun A1 A2 c1 c2 w1 ht (h1 : Arg w1 A1 128 c1 (pageM exA)) (h2 : Arg w1 A2 128 c2 (pageM exB10)) => mNewest_any A1 A2 128 c1 128 c2 (pageM exA) (pageM exB10) 0 w1 ht h1 h2)
  have GA := Lib.hid (fun A1 c1 w1 ht (h1 : Arg w1 A1 128 c1 (pageM exA)) => mGet_any A1 128 c1 (pageM exA) w1 ht h1)
  rw [new_is] at NE
  rw [new_turned] at NT
  rw [new_other] at NO
  rw [getM_page exA_ok (by decide)] at GA
  unfold NewM10 at NE NT NO
  unfold GetM10 at GA
  rw [show mtV ((exB10, true) : Mt × Bool).1 = .agg #[.int .i64 1, .int .u64 5, .int .i64 0, .int .i64 3, .int .i64 9] from rfl] at NE
  rw [show mtV ((mt0, false) : Mt × Bool).1 = .agg #[.int .i64 0, .int .u64 0, .int .i64 0, .int .i64 0, .int .i64 0] from rfl] at NT NO
  rw [show mtV ((exA, (0 : Int)) : Mt × Int).1 = .agg #[.int .i64 1, .int .u64 4, .int .i64 2, .int .i64 0, .int .i64 9] from rfl] at GA
  simp only at NE NT NO GA
  generalize pageM exA = pa at PA NE NT NO GA
  generalize pageM exB10 = pb at PB NE NT NO
  unfold PutEnd10 at PA PB
  have HSL : Hid (∀ w1, Calls Tryd.prog 14 #[.int .u64 5] w1 fun e w' => e = .returned (.int .i64 1) ∧ w1 = w') := Lib.hid (fun w1 => mSlot_any 5 w1 (by decide))
  have HCK : Hid (∀ w1, Calls Tryd.prog 12 #[.agg #[.int .i64 0, .int .u64 1, .int .i64 0, .int .i64 0, .int .i64 1]] w1 fun e w' => e = .returned (.bool false) ∧ Below w1.heap.size w1 w') := Lib.hid (fun w1 => by
    have := mCheck_any ⟨0, 1, 0, 0, 1⟩ w1
    rw [show decide (checkM ⟨0, 1, 0, 0, 1⟩) = false by decide] at this
    exact this)
  clear ht
  go_enter Tryd.func8, Tryd.ntmps8
  go_wp2_with (first
    | (go_at_call 9; (with_reducible refine (PA.out _ HT.out).mono ?_); rintro q1 w1 ⟨A1, c1, rfl, ra, rb, b1⟩; have RA1 := Lib.hid ra; have B1 := Lib.hid b1; clear ra rb b1)
    | (go_at_call 9; (with_reducible refine (PB.out _ (HT.out.below B1.out)).mono ?_); rintro q2 w2 ⟨A2, c2, rfl, ra, rb, b2⟩; have RA2 := Lib.hid (RA1.out.below b2); have RB2 := Lib.hid ra; have B2 := Lib.hid (below_step B1.out b2); have hw2 := trivial; clear ra rb b2)
    | (go_at_call 18; (with_reducible refine (NE.out _ _ _ _ _ (HT.out.below B2.out) RA2.out RB2.out).mono ?_); rintro q3 v3 ⟨rfl, b3⟩; obtain ⟨w3, hw3⟩ : ∃ x, v3.alloc (.cells #[.int .i64 1, .int .u64 5, .int .i64 0, .int .i64 3, .int .i64 9] 24) = x := ⟨_, rfl⟩; have z3 := hw3 ▸ Has.made v3 24 #[.int .i64 1, .int .u64 5, .int .i64 0, .int .i64 3, .int .i64 9]; have bb : Below v3.heap.size v3 w3 := hw3 ▸ (Below.refl _ v3).alloc (Nat.le_refl _) _; have bc := below_step b3 bb; have B3 := Lib.hid (below_step B2.out bc); have RA3 := Lib.hid (RA2.out.below bc); have RB3 := Lib.hid (RB2.out.below bc); have X33 := Lib.hid z3;  have HW3 := Lib.hid hw3; clear b3 bb bc z3 hw3)
    | (go_at_call 18; (try rw [HW3.out]); (with_reducible refine (NT.out _ _ _ _ _ (HT.out.below B3.out) RB3.out RA3.out).mono ?_); rintro q4 v4 ⟨rfl, b4⟩; obtain ⟨w4, hw4⟩ : ∃ x, v4.alloc (.cells #[.int .i64 0, .int .u64 0, .int .i64 0, .int .i64 0, .int .i64 0] 24) = x := ⟨_, rfl⟩; have z4 := hw4 ▸ Has.made v4 24 #[.int .i64 0, .int .u64 0, .int .i64 0, .int .i64 0, .int .i64 0]; have bb : Below v4.heap.size v4 w4 := hw4 ▸ (Below.refl _ v4).alloc (Nat.le_refl _) _; have bc := below_step b4 bb; have B4 := Lib.hid (below_step B3.out bc); have RA4 := Lib.hid (RA3.out.below bc); have RB4 := Lib.hid (RB3.out.below bc); have XE4 := Lib.hid (X33.out.below bc X33.out.lt); have X44 := Lib.hid z4;  have HW4 := Lib.hid hw4; clear b4 bb bc z4 hw4)
    | (go_at_call 18; (try rw [HW4.out]); (with_reducible refine (NO.out _ _ _ _ _ (HT.out.below B4.out) RA4.out RB4.out).mono ?_); rintro q5 v5 ⟨rfl, b5⟩; obtain ⟨w5, hw5⟩ : ∃ x, v5.alloc (.cells #[.int .i64 0, .int .u64 0, .int .i64 0, .int .i64 0, .int .i64 0] 24) = x := ⟨_, rfl⟩; have z5 := hw5 ▸ Has.made v5 24 #[.int .i64 0, .int .u64 0, .int .i64 0, .int .i64 0, .int .i64 0]; have bb : Below v5.heap.size v5 w5 := hw5 ▸ (Below.refl _ v5).alloc (Nat.le_refl _) _; have bc := below_step b5 bb; have B5 := Lib.hid (below_step B4.out bc); have RA5 := Lib.hid (RA4.out.below bc); have RB5 := Lib.hid (RB4.out.below bc); have XE5 := Lib.hid (XE4.out.below bc XE4.out.lt); have X55 := Lib.hid z5;  have HW5 := Lib.hid hw5; clear b5 bb bc z5 hw5)
    | (go_at_call 16; (try rw [HW5.out]); (with_reducible refine (GA.out _ _ _ (HT.out.below B5.out) RA5.out).mono ?_); rintro q6 v6 ⟨rfl, b6⟩; obtain ⟨w6, hw6⟩ : ∃ x, v6.alloc (.cells #[.int .i64 1, .int .u64 4, .int .i64 2, .int .i64 0, .int .i64 9] 24) = x := ⟨_, rfl⟩; have z6 := hw6 ▸ Has.made v6 24 #[.int .i64 1, .int .u64 4, .int .i64 2, .int .i64 0, .int .i64 9]; have bb : Below v6.heap.size v6 w6 := hw6 ▸ (Below.refl _ v6).alloc (Nat.le_refl _) _; have bc := below_step b6 bb; have B6 := Lib.hid (below_step B5.out bc); have RA6 := Lib.hid (RA5.out.below bc); have RB6 := Lib.hid (RB5.out.below bc); have XE6 := XE5.out.below bc XE5.out.lt; have e0 := XE6.cell 0; have e1 := XE6.cell 1; have e2 := XE6.cell 2; have e3 := XE6.cell 3; have e4 := XE6.cell 4; have d0 := z6.cell 0; have d1 := z6.cell 1; have d2 := z6.cell 2; have d3 := z6.cell 3; have d4 := z6.cell 4; have X66 := Lib.hid z6;  have HW6 := Lib.hid hw6; clear b6 bb bc z6 hw6; have hw6 := HW6.out)
    | (go_at_call 14; (try rw [HW6.out]); (with_reducible refine (HSL.out _).mono ?_); rintro q7 w7 ⟨rfl, rfl⟩)
    | (go_at_call 12; (with_reducible refine (HCK.out _).mono ?_); rintro q8 w8 ⟨rfl, b8⟩; have B8 := Lib.hid (below_step B6.out b8); clear b8))
  go_ret
  exact ⟨rfl, B8.out⟩
end Go.Proofs.YtpikcodnonodlaaDoor
end

section
namespace Go.Proofs.YtpikcodnonodlaaDoor
open Go.RowKit
set_option linter.unusedVariables false

def eqM (m n : Mt) : Bool := decide (m.label = n.label ∧ m.txn = n.txn ∧ m.root = n.root ∧ m.list = n.list ∧ m.high = n.high)
theorem eqM_iff {m n : Mt} : eqM m n = true ↔ m = n := by
  obtain ⟨a, b, c, d, e⟩ := m
  obtain ⟨a', b', c', d', e'⟩ := n
  simp [eqM]
theorem meta_eql (m n : Mt) (w : World) : (binOp .eql 24 (mtV m) (mtV n)).run Tryd.prog w = .ok (.bool (eqM m n)) w := by
  obtain ⟨a, b, c, d, e⟩ := m
  obtain ⟨a', b', c', d', e'⟩ := n
  unfold mtV eqM
  go_simp
  by_cases h1 : a = a' <;> by_cases h2 : b = b' <;> by_cases h3 : c = c' <;> by_cases h4 : d = d' <;> by_cases h5 : e = e' <;> simp [h1, h2, h3, h4, h5, Int.natCast_inj]
theorem conv10 {w : World} {A : Option Addr} {n c : Nat} {l : List UInt8} (h : Arg w A n c l) : (convert 26 9 (.slice A n c)).run Tryd.prog w = .ok (.string ⟨l.toArray⟩) w :=
  run_string_of (P := Tryd.prog) w 26 9 5 Tryd.underlying26 Tryd.underlying5 Tryd.underlying9 h.len h.reads
theorem text_eq (a b : List UInt8) : ((⟨a.toArray⟩ : ByteArray).toList == (⟨b.toArray⟩ : ByteArray).toList) = decide (a = b) := by
  rw [ByteArray.toList_eq, ByteArray.toList_eq]
  rw [Bool.eq_iff_iff]
  simp
theorem Arg.drew10 {w : World} {A : Option Addr} {n c : Nat} {l : List UInt8} (h : Arg w A n c l) : Arg w.drew A n c l := ⟨h.len, h.reads.drew, h.old, h.room, h.most, h.none_⟩
theorem nil_arg (w : World) : Arg w none 0 0 [] := ⟨rfl, Reads.empty, fun h => absurd h (Nat.lt_irrefl 0), Nat.le_refl _, Nat.zero_le _, fun _ => rfl⟩
theorem mbox2 (w : World) (m n : Mt) : ∃ W, (w.alloc (.cells (mtC m) 24)).alloc (.cells (mtC n) 24) = W ∧ Below w.heap.size w W ∧ Has W w.heap.size 24 (mtC m) ∧ Has W (w.heap.size + 1) 24 (mtC n) := by
  refine ⟨_, rfl, ((Below.refl _ w).alloc (Nat.le_refl _) _).alloc (by simp) _, (Has.made w 24 _).alloc _, ?_⟩
  have := Has.made (w.alloc (.cells (mtC m) 24)) 24 (mtC n)
  simpa using this
end Go.Proofs.YtpikcodnonodlaaDoor
end
