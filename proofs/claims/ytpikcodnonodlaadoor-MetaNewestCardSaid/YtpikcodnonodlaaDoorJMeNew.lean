import Derived.Test.YtpikcodnonodlaaDoorJ11
/- Of a claim's texts, joined: MeNew. No statement but in the last. -/
namespace Go.Proofs.YtpikcodnonodlaaDoor
open Go.RowKit
set_option linter.unusedVariables false

theorem walkMeNew_long (A1 A2 : Option Addr) (n1 c1 n2 c2 : Nat) (a b : List UInt8) (lab : Int) (w : World) (ht : Tab w) (h1 : Arg w A1 n1 c1 a) (h2 : Arg w A2 n2 c2 b) (hl : 300 < n1) :
    Calls Tryd.prog 4 #[.slice A1 n1 c1, .slice A2 n2 c2, .int .i64 lab] w fun e w' => e = .returned (.bool true) ∧ Below w.heap.size w w' := by
  have HA := Lib.hid (awake10_any w ht)
  have hl2 : (300 : Int) < (n1 : Int) := by omega
  clear hl
  clear ht h1 h2
  go_enter Tryd.func4, Tryd.ntmps4
  go_wp2_with (go_at_call 8; (with_reducible refine HA.out.mono ?_); rintro q0 w1 ⟨rfl, b1⟩; have B1 := Lib.hid b1; clear b1)
  go_ret
  exact ⟨rfl, B1.out⟩
theorem walkMeNew_long2 (A1 A2 : Option Addr) (n1 c1 n2 c2 : Nat) (a b : List UInt8) (lab : Int) (w : World) (ht : Tab w) (h1 : Arg w A1 n1 c1 a) (h2 : Arg w A2 n2 c2 b) (hl : ¬ 300 < n1) (hk : 300 < n2) :
    Calls Tryd.prog 4 #[.slice A1 n1 c1, .slice A2 n2 c2, .int .i64 lab] w fun e w' => e = .returned (.bool true) ∧ Below w.heap.size w w' := by
  have HA := Lib.hid (awake10_any w ht)
  have hl2 : ¬ (300 : Int) < (n1 : Int) := by omega
  have hk2 : (300 : Int) < (n2 : Int) := by omega
  clear hl hk
  clear ht h1 h2
  go_enter Tryd.func4, Tryd.ntmps4
  go_wp2_with (go_at_call 8; (with_reducible refine HA.out.mono ?_); rintro q0 w1 ⟨rfl, b1⟩; have B1 := Lib.hid b1; clear b1)
  go_ret
  exact ⟨rfl, B1.out⟩
set_option maxRecDepth 100000 in
set_option maxHeartbeats 8000000 in
theorem walkMeNew_few (A1 A2 : Option Addr) (n1 c1 n2 c2 : Nat) (a b : List UInt8) (lab : Int) (w : World) (ht : Tab w) (h1 : Arg w A1 n1 c1 a) (h2 : Arg w A2 n2 c2 b) (hl : ¬ 300 < n1) (hk : ¬ 300 < n2) :
    Calls Tryd.prog 4 #[.slice A1 n1 c1, .slice A2 n2 c2, .int .i64 lab] w fun e w' => e = .returned (.bool true) ∧ Below w.heap.size w w' := by
  have hmx : Tryd.prog.follows .mixedOrders = true := by kernel_rfl
  have hz := zero_meta
  have hzr := zero_rmeta
  have hal : a.length ≤ 1000000 := by rw [← h1.len]; omega
  have hbl : b.length ≤ 1000000 := by rw [← h2.len]; omega
  have HA := Lib.hid (awake10_any w ht)
  have HT := Lib.hid ht
  have H1 := Lib.hid h1
  have H2 := Lib.hid h2
  have HG := Lib.hid (fun w1 (hb : Below w.heap.size w w1) => mGet_any A1 n1 c1 a w1 (ht.below hb) (h1.below hb))
  have HRG := Lib.hid (fun w1 => r10Get_any a w1 hal)
  have HN := Lib.hid (fun w1 (hb : Below w.heap.size w w1) => mNewest_any A1 A2 n1 c1 n2 c2 a b lab w1 (ht.below hb) (h1.below hb) (h2.below hb))
  have HRN := Lib.hid (fun w1 => r10Newest_any a b lab w1 hal hbl)
  have HP1 := Lib.hid (fun w1 => plain10_any (getM a).1 w1)
  have HP2 := Lib.hid (fun w1 => plain10_any (newestM a b lab).1 w1)
  generalize newestM a b lab = rn at HN HRN HP2
  generalize getM a = rg at HG HRG HP1
  obtain ⟨⟨l0, t0, r0, s0, g0⟩, er⟩ := rg
  obtain ⟨⟨l1, t1, r1, s1, g1⟩, fd⟩ := rn
  unfold GetM10 mtV at HG HRG
  unfold NewM10 mtV at HN HRN
  unfold mtV at HP1 HP2
  simp only at HP1 HP2
  obtain ⟨sa, hsa⟩ : ∃ sa : ByteArray, (⟨a.toArray⟩ : ByteArray) = sa := ⟨_, rfl⟩
  obtain ⟨sb, hsb⟩ : ∃ sb : ByteArray, (⟨b.toArray⟩ : ByteArray) = sb := ⟨_, rfl⟩
  rw [hsa] at HRG
  rw [hsa, hsb] at HRN
  have HCA : Hid (∀ w1, Below w.heap.size w w1 → (convert 26 9 (.slice A1 n1 c1)).run Tryd.prog w1 = .ok (.string sa) w1) := Lib.hid (fun w1 hb => by rw [← hsa]; exact conv10 (h1.below hb))
  have HCB : Hid (∀ w1, Below w.heap.size w w1 → (convert 26 9 (.slice A2 n2 c2)).run Tryd.prog w1 = .ok (.string sb) w1) := Lib.hid (fun w1 hb => by rw [← hsb]; exact conv10 (h2.below hb))
  have hl2 : ¬ (300 : Int) < (n1 : Int) := by omega
  have hk2 : ¬ (300 : Int) < (n2 : Int) := by omega
  clear ht h1 h2 hl hk hal hbl hsa hsb
  go_enter Tryd.func4, Tryd.ntmps4
  go_wp2_with (first
    | (go_at_call 8; (with_reducible refine HA.out.mono ?_); rintro q0 w1 ⟨rfl, b1⟩; have B1 := Lib.hid b1; clear b1)
    | (go_at_call 16; (with_reducible refine (HG.out _ B1.out).mono ?_); rintro q2 v2 ⟨rfl, b2⟩; obtain ⟨w2, hw2⟩ : ∃ x, v2.alloc (.cells #[.int .i64 l0, .int .u64 (t0 : Int), .int .i64 r0, .int .i64 s0, .int .i64 g0] 24) = x := ⟨_, rfl⟩; have z2 := hw2 ▸ Has.made v2 24 #[.int .i64 l0, .int .u64 (t0 : Int), .int .i64 r0, .int .i64 s0, .int .i64 g0]; have bb : Below v2.heap.size v2 w2 := hw2 ▸ (Below.refl _ v2).alloc (Nat.le_refl _) _; have bc := below_step b2 bb; have B2 := Lib.hid (below_step B1.out bc); have X22 := Lib.hid z2; have HW2 := Lib.hid hw2; have hcv := HCA.out _ B2.out; have hw2o := HW2.out; clear b2 bb bc z2 hw2)
    | (go_at_call 17; (try rw [HW2.out]); (with_reducible refine (HRG.out _).mono ?_); rintro q3 v3 ⟨rfl, b3⟩; obtain ⟨w3, hw3⟩ : ∃ x, v3.alloc (.cells #[.int .i64 l0, .int .u64 (t0 : Int), .int .i64 r0, .int .i64 s0, .int .i64 g0] 32) = x := ⟨_, rfl⟩; have z3 := hw3 ▸ Has.made v3 32 #[.int .i64 l0, .int .u64 (t0 : Int), .int .i64 r0, .int .i64 s0, .int .i64 g0]; have bb : Below v3.heap.size v3 w3 := hw3 ▸ (Below.refl _ v3).alloc (Nat.le_refl _) _; have bc := below_step b3 bb; have B3 := Lib.hid (below_step B2.out bc); have X23 := Lib.hid (X22.out.below bc X22.out.lt); have X33 := Lib.hid z3; have HW3 := Lib.hid hw3; clear b3 bb bc z3 hw3)
    | (go_at_call 18; (try rw [HW3.out]); (with_reducible refine (HN.out _ B3.out).mono ?_); rintro q4 v4 ⟨rfl, b4⟩; obtain ⟨w4, hw4⟩ : ∃ x, v4.alloc (.cells #[.int .i64 l1, .int .u64 (t1 : Int), .int .i64 r1, .int .i64 s1, .int .i64 g1] 24) = x := ⟨_, rfl⟩; have z4 := hw4 ▸ Has.made v4 24 #[.int .i64 l1, .int .u64 (t1 : Int), .int .i64 r1, .int .i64 s1, .int .i64 g1]; have bb : Below v4.heap.size v4 w4 := hw4 ▸ (Below.refl _ v4).alloc (Nat.le_refl _) _; have bc := below_step b4 bb; have B4 := Lib.hid (below_step B3.out bc); have X24 := Lib.hid (X23.out.below bc X23.out.lt); have X34 := Lib.hid (X33.out.below bc X33.out.lt); have X44 := Lib.hid z4; have HW4 := Lib.hid hw4; have hcv2 := HCA.out _ B4.out; have hcv3 := HCB.out _ B4.out; have hw4o := HW4.out; clear b4 bb bc z4 hw4)
    | (go_at_call 19; (try rw [HW4.out]); (with_reducible refine (HRN.out _).mono ?_); rintro q5 v5 ⟨rfl, b5⟩; obtain ⟨w5, hw5⟩ : ∃ x, v5.alloc (.cells #[.int .i64 l1, .int .u64 (t1 : Int), .int .i64 r1, .int .i64 s1, .int .i64 g1] 32) = x := ⟨_, rfl⟩; have z5 := hw5 ▸ Has.made v5 32 #[.int .i64 l1, .int .u64 (t1 : Int), .int .i64 r1, .int .i64 s1, .int .i64 g1]; have bb : Below v5.heap.size v5 w5 := hw5 ▸ (Below.refl _ v5).alloc (Nat.le_refl _) _; have bc := below_step b5 bb; have B5 := Lib.hid (below_step B4.out bc); have X25 := Lib.hid (X24.out.below bc X24.out.lt); have X35 := Lib.hid (X34.out.below bc X34.out.lt); have X45 := Lib.hid (X44.out.below bc X44.out.lt); have X55 := Lib.hid z5; have HW5 := Lib.hid hw5; clear b5 bb bc z5 hw5))
  rw [HW5.out]
  have hS : (fun w' => Has w' v2.heap.size 24 #[.int .i64 l0, .int .u64 (t0 : Int), .int .i64 r0, .int .i64 s0, .int .i64 g0] ∧ Has w' v3.heap.size 32 #[.int .i64 l0, .int .u64 (t0 : Int), .int .i64 r0, .int .i64 s0, .int .i64 g0] ∧ Has w' v4.heap.size 24 #[.int .i64 l1, .int .u64 (t1 : Int), .int .i64 r1, .int .i64 s1, .int .i64 g1] ∧ Has w' v5.heap.size 32 #[.int .i64 l1, .int .u64 (t1 : Int), .int .i64 r1, .int .i64 s1, .int .i64 g1]) w5.drew := ⟨X25.out, X35.out, X45.out, X55.out⟩
  have BD : Below w.heap.size w w5.drew := B5.out.drew
  rename_i K hK
  refine wp_held (fun w' => Has w' v2.heap.size 24 #[.int .i64 l0, .int .u64 (t0 : Int), .int .i64 r0, .int .i64 s0, .int .i64 g0] ∧ Has w' v3.heap.size 32 #[.int .i64 l0, .int .u64 (t0 : Int), .int .i64 r0, .int .i64 s0, .int .i64 g0] ∧ Has w' v4.heap.size 24 #[.int .i64 l1, .int .u64 (t1 : Int), .int .i64 r1, .int .i64 s1, .int .i64 g1] ∧ Has w' v5.heap.size 32 #[.int .i64 l1, .int .u64 (t1 : Int), .int .i64 r1, .int .i64 s1, .int .i64 g1]) K hmx ?_ (fun _ _ h => h)
  refine wpAnyH_take (i := 0) (v := .agg #[.int .i64 l0, .int .u64 (t0 : Int), .int .i64 r0, .int .i64 s0, .int .i64 g0]) (lit rfl) (by kernel_rfl) (by kernel_rfl) (by kernel_rfl) (fun _ _ _ h => h) (Or.inl ⟨by rfl, ?_⟩) hS ?_
  · rintro w6 ⟨s1, s2, s3, s4⟩
    have d0 := s1.cell 0
    have d1 := s1.cell 1
    have d2 := s1.cell 2
    have d3 := s1.cell 3
    have d4 := s1.cell 4
    go_simp
  simp only [Act.put, List.setIfInBounds_toArray, List.set_cons_zero, List.set_cons_succ]
  refine wpAnyH_take (i := 2) (v := .agg #[.int .i64 l0, .int .u64 (t0 : Int), .int .i64 r0, .int .i64 s0, .int .i64 g0]) (lit rfl) (by kernel_rfl) (by kernel_rfl) (by kernel_rfl) (fun _ _ _ h => h) (Or.inl ⟨by rfl, ?_⟩) hS ?_
  · rintro w6 ⟨s1, s2, s3, s4⟩
    have d0 := s2.cell 0
    have d1 := s2.cell 1
    have d2 := s2.cell 2
    have d3 := s2.cell 3
    have d4 := s2.cell 4
    go_simp
  simp only [Act.put, List.setIfInBounds_toArray, List.set_cons_zero, List.set_cons_succ]
  refine wpAnyH_ready (rs := [1]) (by kernel_rfl) (by simp) ?_
  refine AllReadyH.cons (lit rfl) (fun K5 hK5 => ?_) AllReadyH.nil
  refine step_open rfl ?_
  go_simp
  go_at_call 11
  (with_reducible refine (HP1.out _).mono ?_)
  rintro y1 u1 ⟨rfl, b1⟩
  have hS1 : (fun w' => Has w' v2.heap.size 24 #[.int .i64 l0, .int .u64 (t0 : Int), .int .i64 r0, .int .i64 s0, .int .i64 g0] ∧ Has w' v3.heap.size 32 #[.int .i64 l0, .int .u64 (t0 : Int), .int .i64 r0, .int .i64 s0, .int .i64 g0] ∧ Has w' v4.heap.size 24 #[.int .i64 l1, .int .u64 (t1 : Int), .int .i64 r1, .int .i64 s1, .int .i64 g1] ∧ Has w' v5.heap.size 32 #[.int .i64 l1, .int .u64 (t1 : Int), .int .i64 r1, .int .i64 s1, .int .i64 g1]) u1 := ⟨hS.1.below b1 hS.1.lt, hS.2.1.below b1 hS.2.1.lt, hS.2.2.1.below b1 hS.2.2.1.lt, hS.2.2.2.below b1 hS.2.2.2.lt⟩
  replace BD := below_step BD b1
  clear b1
  refine hK5.out _ _ hS1 (fun _ => ?_)
  clear hK5 K5
  refine wpAnyH_take (i := 3) (v := .bool true) (lit rfl) (by kernel_rfl) (by kernel_rfl) (by kernel_rfl) (fun _ _ _ h => h) (Or.inl ⟨by rfl, ?_⟩) hS1 ?_
  · rintro w6 ⟨s1, s2, s3, s4⟩
    go_simp
  simp only [Act.put, List.setIfInBounds_toArray, List.set_cons_zero, List.set_cons_succ]
  refine wpAnyH_take (i := 4) (v := .bool true) (lit rfl) (by kernel_rfl) (by kernel_rfl) (by kernel_rfl) (fun _ _ _ h => h) (Or.inl ⟨by rfl, ?_⟩) hS1 ?_
  · rintro w6 ⟨s1, s2, s3, s4⟩
    go_simp
  simp only [Act.put, List.setIfInBounds_toArray, List.set_cons_zero, List.set_cons_succ]
  refine wpAnyH_take (i := 5) (v := .int .i64 er) (lit rfl) (by kernel_rfl) (by kernel_rfl) (by kernel_rfl) (fun _ _ _ h => h) (Or.inl ⟨by rfl, ?_⟩) hS1 ?_
  · rintro w6 ⟨s1, s2, s3, s4⟩
    go_simp
  simp only [Act.put, List.setIfInBounds_toArray, List.set_cons_zero, List.set_cons_succ]
  refine wpAnyH_take (i := 6) (v := .int .i64 er) (lit rfl) (by kernel_rfl) (by kernel_rfl) (by kernel_rfl) (fun _ _ _ h => h) (Or.inl ⟨by rfl, ?_⟩) hS1 ?_
  · rintro w6 ⟨s1, s2, s3, s4⟩
    go_simp
  simp only [Act.put, List.setIfInBounds_toArray, List.set_cons_zero, List.set_cons_succ]
  refine wpAnyH_take (i := 7) (v := .bool true) (lit rfl) (by kernel_rfl) (by kernel_rfl) (by kernel_rfl) (fun _ _ _ h => h) (Or.inl ⟨by rfl, ?_⟩) hS1 ?_
  · rintro w6 ⟨s1, s2, s3, s4⟩
    go_simp
  simp only [Act.put, List.setIfInBounds_toArray, List.set_cons_zero, List.set_cons_succ]
  refine wpAnyH_take (i := 8) (v := .bool true) (lit rfl) (by kernel_rfl) (by kernel_rfl) (by kernel_rfl) (fun _ _ _ h => h) (Or.inl ⟨by rfl, ?_⟩) hS1 ?_
  · rintro w6 ⟨s1, s2, s3, s4⟩
    go_simp
  simp only [Act.put, List.setIfInBounds_toArray, List.set_cons_zero, List.set_cons_succ]
  refine wpAnyH_take (i := 9) (v := .bool true) (lit rfl) (by kernel_rfl) (by kernel_rfl) (by kernel_rfl) (fun _ _ _ h => h) (Or.inl ⟨by rfl, ?_⟩) hS1 ?_
  · rintro w6 ⟨s1, s2, s3, s4⟩
    go_simp
  simp only [Act.put, List.setIfInBounds_toArray, List.set_cons_zero, List.set_cons_succ]
  refine wpAnyH_take (i := 10) (v := .agg #[.int .i64 l1, .int .u64 (t1 : Int), .int .i64 r1, .int .i64 s1, .int .i64 g1]) (lit rfl) (by kernel_rfl) (by kernel_rfl) (by kernel_rfl) (fun _ _ _ h => h) (Or.inl ⟨by rfl, ?_⟩) hS1 ?_
  · rintro w6 ⟨s1, s2, s3, s4⟩
    have d0 := s3.cell 0
    have d1 := s3.cell 1
    have d2 := s3.cell 2
    have d3 := s3.cell 3
    have d4 := s3.cell 4
    go_simp
  simp only [Act.put, List.setIfInBounds_toArray, List.set_cons_zero, List.set_cons_succ]
  refine wpAnyH_take (i := 12) (v := .agg #[.int .i64 l1, .int .u64 (t1 : Int), .int .i64 r1, .int .i64 s1, .int .i64 g1]) (lit rfl) (by kernel_rfl) (by kernel_rfl) (by kernel_rfl) (fun _ _ _ h => h) (Or.inl ⟨by rfl, ?_⟩) hS1 ?_
  · rintro w6 ⟨s1, s2, s3, s4⟩
    have d0 := s4.cell 0
    have d1 := s4.cell 1
    have d2 := s4.cell 2
    have d3 := s4.cell 3
    have d4 := s4.cell 4
    go_simp
  simp only [Act.put, List.setIfInBounds_toArray, List.set_cons_zero, List.set_cons_succ]
  refine wpAnyH_ready (rs := [11]) (by kernel_rfl) (by simp) ?_
  refine AllReadyH.cons (lit rfl) (fun K5 hK5 => ?_) AllReadyH.nil
  go_simp
  go_at_call 11
  (with_reducible refine (HP2.out _).mono ?_)
  rintro y2 u2 ⟨rfl, b1⟩
  have hS2 : (fun w' => Has w' v2.heap.size 24 #[.int .i64 l0, .int .u64 (t0 : Int), .int .i64 r0, .int .i64 s0, .int .i64 g0] ∧ Has w' v3.heap.size 32 #[.int .i64 l0, .int .u64 (t0 : Int), .int .i64 r0, .int .i64 s0, .int .i64 g0] ∧ Has w' v4.heap.size 24 #[.int .i64 l1, .int .u64 (t1 : Int), .int .i64 r1, .int .i64 s1, .int .i64 g1] ∧ Has w' v5.heap.size 32 #[.int .i64 l1, .int .u64 (t1 : Int), .int .i64 r1, .int .i64 s1, .int .i64 g1]) u2 := ⟨hS1.1.below b1 hS1.1.lt, hS1.2.1.below b1 hS1.2.1.lt, hS1.2.2.1.below b1 hS1.2.2.1.lt, hS1.2.2.2.below b1 hS1.2.2.2.lt⟩
  replace BD := below_step BD b1
  clear b1
  refine hK5.out _ _ hS2 (fun _ => ?_)
  clear hK5 K5
  refine wpAnyH_take (i := 13) (v := .bool true) (lit rfl) (by kernel_rfl) (by kernel_rfl) (by kernel_rfl) (fun _ _ _ h => h) (Or.inl ⟨by rfl, ?_⟩) hS2 ?_
  · rintro w6 ⟨s1, s2, s3, s4⟩
    go_simp
  simp only [Act.put, List.setIfInBounds_toArray, List.set_cons_zero, List.set_cons_succ]
  refine wpAnyH_take (i := 14) (v := .bool true) (lit rfl) (by kernel_rfl) (by kernel_rfl) (by kernel_rfl) (fun _ _ _ h => h) (Or.inl ⟨by rfl, ?_⟩) hS2 ?_
  · rintro w6 ⟨s1, s2, s3, s4⟩
    go_simp
  simp only [Act.put, List.setIfInBounds_toArray, List.set_cons_zero, List.set_cons_succ]
  refine wpAnyH_take (i := 15) (v := .bool true) (lit rfl) (by kernel_rfl) (by kernel_rfl) (by kernel_rfl) (fun _ _ _ h => h) (Or.inl ⟨by rfl, ?_⟩) hS2 ?_
  · rintro w6 ⟨s1, s2, s3, s4⟩
    go_simp
  simp only [Act.put, List.setIfInBounds_toArray, List.set_cons_zero, List.set_cons_succ]
  refine wpAnyH_take (i := 16) (v := .bool fd) (lit rfl) (by kernel_rfl) (by kernel_rfl) (by kernel_rfl) (fun _ _ _ h => h) (Or.inl ⟨by rfl, ?_⟩) hS2 ?_
  · rintro w6 ⟨s1, s2, s3, s4⟩
    go_simp
  simp only [Act.put, List.setIfInBounds_toArray, List.set_cons_zero, List.set_cons_succ]
  refine wpAnyH_take (i := 17) (v := .bool fd) (lit rfl) (by kernel_rfl) (by kernel_rfl) (by kernel_rfl) (fun _ _ _ h => h) (Or.inl ⟨by rfl, ?_⟩) hS2 ?_
  · rintro w6 ⟨s1, s2, s3, s4⟩
    go_simp
  simp only [Act.put, List.setIfInBounds_toArray, List.set_cons_zero, List.set_cons_succ]
  refine wpAnyH_take (i := 18) (v := .bool true) (lit rfl) (by kernel_rfl) (by kernel_rfl) (by kernel_rfl) (fun _ _ _ h => h) (Or.inl ⟨by rfl, ?_⟩) hS2 ?_
  · rintro w6 ⟨s1, s2, s3, s4⟩
    go_simp
  simp only [Act.put, List.setIfInBounds_toArray, List.set_cons_zero, List.set_cons_succ]
  refine wpAnyH_take (i := 19) (v := .bool true) (lit rfl) (by kernel_rfl) (by kernel_rfl) (by kernel_rfl) (fun _ _ _ h => h) (Or.inl ⟨by rfl, ?_⟩) hS2 ?_
  · rintro w6 ⟨s1, s2, s3, s4⟩
    go_simp
  simp only [Act.put, List.setIfInBounds_toArray, List.set_cons_zero, List.set_cons_succ]
  refine wpAnyH_take (i := 20) (v := .bool true) (lit rfl) (by kernel_rfl) (by kernel_rfl) (by kernel_rfl) (fun _ _ _ h => h) (Or.inl ⟨by rfl, ?_⟩) hS2 ?_
  · rintro w6 ⟨s1, s2, s3, s4⟩
    go_simp
  simp only [Act.put, List.setIfInBounds_toArray, List.set_cons_zero, List.set_cons_succ]
  refine wpAnyH_done (by kernel_rfl) ?_ _
  refine hK _ _ ?_
  have BE := Lib.hid BD
  clear hS hS1 hS2 BD
  go_wp2
  go_ret
  exact ⟨rfl, BE.out⟩
theorem walkMeNew (A1 A2 : Option Addr) (n1 c1 n2 c2 : Nat) (a b : List UInt8) (lab : Int) (w : World) (ht : Tab w) (h1 : Arg w A1 n1 c1 a) (h2 : Arg w A2 n2 c2 b) :
    Calls Tryd.prog 4 #[.slice A1 n1 c1, .slice A2 n2 c2, .int .i64 lab] w fun e w' => e = .returned (.bool true) ∧ Below w.heap.size w w' := by
  by_cases hl : 300 < n1
  · exact walkMeNew_long A1 A2 n1 c1 n2 c2 a b lab w ht h1 h2 hl
  · by_cases hk : 300 < n2
    · exact walkMeNew_long2 A1 A2 n1 c1 n2 c2 a b lab w ht h1 h2 hl hk
    · exact walkMeNew_few A1 A2 n1 c1 n2 c2 a b lab w ht h1 h2 hl hk
end Go.Proofs.YtpikcodnonodlaaDoor
