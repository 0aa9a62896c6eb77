import Derived.Test.YtoelojlabmconaaJPod
import Derived.Test.YtoelojlabmconaaJ03
import Derived.StillTail
/- Of a claim's texts, joined: Poe Rdk Rdj. No statement but in the last. -/
section
namespace Go.Proofs.Ytoelojlabmconaa
open Go.RowKit
set_option linter.unusedVariables false

section
variable {w : World} {A B A' B' : Option Addr} {n c m d c' d' : Nat}
set_option maxRecDepth 100000 in
set_option maxHeartbeats 8000000 in
theorem r13Same_z (p : Pd) (h : Int) (hp : PoolA w A n c B m d p) (hq : PoolA w A' n c' B' m d' p) (hl : p.free.length + (catZ p.wait).length ≤ 10000) :
    Calls Try.prog 22 #[.agg #[.int .i64 h, .slice A n c, .slice B m d], .agg #[.int .i64 h, .slice A' n c', .slice B' m d']] w fun e w' => e = .returned (.bool true) ∧ Below w.heap.size w w' := by
  have hmx : Try.prog.follows .mixedOrders = true := by kernel_rfl
  obtain ⟨W1, hW1⟩ : ∃ W1, w.alloc (.cells #[.int .i64 h, .slice A n c, .slice B m d] 30) = W1 := ⟨_, rfl⟩
  obtain ⟨W2, hW2⟩ : ∃ W2, W1.alloc (.cells #[.int .i64 h, .slice A' n c', .slice B' m d'] 30) = W2 := ⟨_, rfl⟩
  have hb1 : Below w.heap.size w W1 := below_box hW1 (Below.refl _ _)
  have hb2 : Below W1.heap.size W1 W2 := below_box hW2 (Below.refl _ _)
  have HX : Hid (∀ w1, Below W2.heap.size W2 w1 → Has w1 w.heap.size 30 #[.int .i64 h, .slice A n c, .slice B m d] ∧ Has w1 W1.heap.size 30 #[.int .i64 h, .slice A' n c', .slice B' m d'] ∧ PoolA w1 A n c B m d p ∧ PoolA w1 A' n c' B' m d' p) := Lib.hid (fun w1 b1 => by
    obtain ⟨x1, x2⟩ := BoxP.made (h := h) hp hW1 w1 (below_step hb2 b1)
    obtain ⟨x3, x4⟩ := BoxP.made (h := h) (hq.below hb1) hW2 w1 b1
    exact ⟨x1, x3, x2, x4⟩)
  have HBW : Hid (∀ w1, Below W2.heap.size W2 w1 → Below w.heap.size w w1) := Lib.hid (fun w1 b1 => below_step hb1 (below_step hb2 b1))
  have HM := Lib.hid hp.wait.len
  have hmm : m ≤ 9223372036854775807 := by have h1 := hp.wait.room; have h2 := hp.wait.most; unfold maxLen at h2; omega
  have hnn : n ≤ 1000000 := by have := hp.free.len; omega
  have HNF := Lib.hid hp.free.len
  obtain ⟨ha0, hb0, hpa0, hpb0⟩ := HX.out W2 (Below.refl _ _)
  have d0 := ha0.cell 0
  have d1 := ha0.cell 1
  have d2 := ha0.cell 2
  have e0 := hb0.cell 0
  have e1 := hb0.cell 1
  have e2 := hb0.cell 2
  have HI0 := Lib.hid (r13ints_z p.free A A' n c c' W2 hpa0.free.len hpa0.free.reads hpb0.free.reads hnn)
  have HL := Lib.hid hl
  have hs1 : W1.heap.size = w.heap.size + 1 := by rw [← hW1, World.size_alloc]
  have HWW : Hid ((w.alloc (.cells #[.int .i64 h, .slice A n c, .slice B m d] 30)).alloc (.cells #[.int .i64 h, .slice A' n c', .slice B' m d'] 30) = W2) := Lib.hid (by rw [hW1, hW2])
  rw [← HWW.out] at d0 d1 d2 e0 e1 e2
  rw [hs1] at e0 e1 e2 HX
  clear hp hq hl hW1 hW2 ha0 hb0 hpa0 hpb0 hb1 hb2 hs1
  go_enter Try.func22, Try.ntmps22
  go_wp2_with (go_at_call 35; (try rw [HWW.out]); (with_reducible refine HI0.out.mono ?_); rintro e w2 ⟨rfl, b2⟩; have B2 := Lib.hid b2; have f2 := (HX.out w2 b2).1.cell 2; have g2 := (HX.out w2 b2).2.1.cell 2; clear b2)
  go_loopw [5] (fun i wr => ∃ k : Nat, k ≤ m ∧ i = .int .i64 (k : Int) ∧ Below W2.heap.size W2 wr) (fun i _ => m - (intOf i).toNat)
  case atStart => exact ⟨0, Nat.zero_le _, rfl, B2.out⟩
  case round =>
    obtain ⟨k, hk, rfl, hB⟩ := hrel
    have HB2 := Lib.hid hB
    obtain ⟨hha, hhb, hpa, hpb⟩ := HX.out wr hB
    have fa := hha.cell 2
    have fb := hhb.cell 2
    by_cases hlt : k < m
    · have hkl : k < p.wait.length := by have := HM.out; omega
      obtain ⟨b, off, rfl, hbl, hel⟩ := hpa.wait.reads (by omega)
      obtain ⟨b', off', rfl, hbl', hel'⟩ := hpb.wait.reads (by omega)
      obtain ⟨x, hx⟩ : ∃ x, p.wait[k]? = some x := ⟨_, List.getElem?_eq_getElem hkl⟩
      obtain ⟨a4, A2, n2, c2, a3, hr2⟩ := hel k x hx
      obtain ⟨b4, A3, n3, c3, b3, hr3⟩ := hel' k x hx
      obtain rfl : n3 = n2 := by rw [hr2.len, hr3.len]
      have hn2 : n3 ≤ 1000000 := by
        have h5 := catTo_len (l := p.wait) (k + 1)
        rw [catTo_more hx, List.length_append, ← hr2.len] at h5
        have := HL.out
        omega
      have HIN := Lib.hid (fun w1 (b1 : Below wr.heap.size wr w1) => r13ints_z x.2 A2 A3 n3 c2 c3 w1 hr2.len (hr2.below b1).reads (hr3.below b1).reads hn2)
      have k0 : (0 : Int) ≤ (k : Int) := by omega
      have k1 : (k : Int) < (m : Int) := by omega
      have la := hha.lt
      have lb := hhb.lt
      obtain ⟨t, ht⟩ : ∃ t, x.1 = t := ⟨_, rfl⟩
      rw [ht] at a4 b4
      have HSS : Hid (∀ w1, Below wr.heap.size wr w1 → (fun w' : World => (w'.cell? ⟨w.heap.size, 2, none⟩ = some (.slice (some ⟨b, off, none⟩) m d) ∧ w'.cell? ⟨b, off + k * 2, none⟩ = some (.int .u64 (t : Int)) ∧ w'.cell? ⟨b, off + k * 2 + 1, none⟩ = some (.slice A2 n3 c2)) ∧ w'.cell? ⟨w.heap.size + 1, 2, none⟩ = some (.slice (some ⟨b', off', none⟩) m d') ∧ w'.cell? ⟨b', off' + k * 2, none⟩ = some (.int .u64 (t : Int)) ∧ w'.cell? ⟨b', off' + k * 2 + 1, none⟩ = some (.slice A3 n3 c3)) w1) := Lib.hid (fun w1 b1 => ⟨⟨(b1.cell (p := ⟨w.heap.size, 2, none⟩) la).trans fa, (b1.cell (p := ⟨b, off + k * 2, none⟩) hbl).trans a4, (b1.cell (p := ⟨b, off + k * 2 + 1, none⟩) hbl).trans a3⟩, (b1.cell (p := ⟨w.heap.size + 1, 2, none⟩) lb).trans fb, (b1.cell (p := ⟨b', off' + k * 2, none⟩) hbl').trans b4, (b1.cell (p := ⟨b', off' + k * 2 + 1, none⟩) hbl').trans b3⟩)
      have hSd := HSS.out wr (Below.refl _ _)
      clear hB hha hhb hpa hpb hkl hel hel' hx hr2 hr3 ht hn2 a3 a4 b3 b4 la lb hbl hbl' fa fb
      go_wp2
      first | (rename_i K hK; refine wp_held (fun w' : World => (w'.cell? ⟨w.heap.size, 2, none⟩ = some (.slice (some ⟨b, off, none⟩) m d) ∧ w'.cell? ⟨b, off + k * 2, none⟩ = some (.int .u64 (t : Int)) ∧ w'.cell? ⟨b, off + k * 2 + 1, none⟩ = some (.slice A2 n3 c2)) ∧ w'.cell? ⟨w.heap.size + 1, 2, none⟩ = some (.slice (some ⟨b', off', none⟩) m d') ∧ w'.cell? ⟨b', off' + k * 2, none⟩ = some (.int .u64 (t : Int)) ∧ w'.cell? ⟨b', off' + k * 2 + 1, none⟩ = some (.slice A3 n3 c3)) K hmx ?_ (fun _ _ h => h)) | (rename_i K hK hz; refine wp_held (fun w' : World => (w'.cell? ⟨w.heap.size, 2, none⟩ = some (.slice (some ⟨b, off, none⟩) m d) ∧ w'.cell? ⟨b, off + k * 2, none⟩ = some (.int .u64 (t : Int)) ∧ w'.cell? ⟨b, off + k * 2 + 1, none⟩ = some (.slice A2 n3 c2)) ∧ w'.cell? ⟨w.heap.size + 1, 2, none⟩ = some (.slice (some ⟨b', off', none⟩) m d') ∧ w'.cell? ⟨b', off' + k * 2, none⟩ = some (.int .u64 (t : Int)) ∧ w'.cell? ⟨b', off' + k * 2 + 1, none⟩ = some (.slice A3 n3 c3)) K hmx ?_ (fun _ _ h => h))
      refine wpAnyH_take (i := 0) (v := .pointer (some ⟨w.heap.size, 2, none⟩)) (lit rfl) (by kernel_rfl) (by kernel_rfl) (by kernel_rfl) (fun _ _ _ h => h) (Or.inl ⟨by rfl, ?_⟩) hSd ?_
      · rintro w6 ⟨⟨k1', k2', k3'⟩, k4', k5', k6'⟩
        go_simp
      simp only [Act.put, List.setIfInBounds_toArray, List.set_cons_zero, List.set_cons_succ]
      refine wpAnyH_take (i := 1) (v := .slice (some ⟨b, off, none⟩) m d) (lit rfl) (by kernel_rfl) (by kernel_rfl) (by kernel_rfl) (fun _ _ _ h => h) (Or.inl ⟨by rfl, ?_⟩) hSd ?_
      · rintro w6 ⟨⟨k1', k2', k3'⟩, k4', k5', k6'⟩
        go_simp
      simp only [Act.put, List.setIfInBounds_toArray, List.set_cons_zero, List.set_cons_succ]
      refine wpAnyH_take (i := 2) (v := .int .i64 (k : Int)) (lit rfl) (by kernel_rfl) (by kernel_rfl) (by kernel_rfl) (fun _ _ _ h => h) (Or.inl ⟨by rfl, ?_⟩) hSd ?_
      · rintro w6 ⟨⟨k1', k2', k3'⟩, k4', k5', k6'⟩
        go_simp
      simp only [Act.put, List.setIfInBounds_toArray, List.set_cons_zero, List.set_cons_succ]
      refine wpAnyH_take (i := 3) (v := .pointer (some ⟨b, off + k * 2, none⟩)) (lit rfl) (by kernel_rfl) (by kernel_rfl) (by kernel_rfl) (fun _ _ _ h => h) (Or.inl ⟨by rfl, ?_⟩) hSd ?_
      · rintro w6 ⟨⟨k1', k2', k3'⟩, k4', k5', k6'⟩
        go_simp
      simp only [Act.put, List.setIfInBounds_toArray, List.set_cons_zero, List.set_cons_succ]
      refine wpAnyH_take (i := 4) (v := .pointer (some ⟨b, off + k * 2, none⟩)) (lit rfl) (by kernel_rfl) (by kernel_rfl) (by kernel_rfl) (fun _ _ _ h => h) (Or.inl ⟨by rfl, ?_⟩) hSd ?_
      · rintro w6 ⟨⟨k1', k2', k3'⟩, k4', k5', k6'⟩
        go_simp
      simp only [Act.put, List.setIfInBounds_toArray, List.set_cons_zero, List.set_cons_succ]
      refine wpAnyH_take (i := 5) (v := .int .u64 (t : Int)) (lit rfl) (by kernel_rfl) (by kernel_rfl) (by kernel_rfl) (fun _ _ _ h => h) (Or.inl ⟨by rfl, ?_⟩) hSd ?_
      · rintro w6 ⟨⟨k1', k2', k3'⟩, k4', k5', k6'⟩
        go_simp
      simp only [Act.put, List.setIfInBounds_toArray, List.set_cons_zero, List.set_cons_succ]
      refine wpAnyH_take (i := 6) (v := .pointer (some ⟨w.heap.size + 1, 2, none⟩)) (lit rfl) (by kernel_rfl) (by kernel_rfl) (by kernel_rfl) (fun _ _ _ h => h) (Or.inl ⟨by rfl, ?_⟩) hSd ?_
      · rintro w6 ⟨⟨k1', k2', k3'⟩, k4', k5', k6'⟩
        go_simp
      simp only [Act.put, List.setIfInBounds_toArray, List.set_cons_zero, List.set_cons_succ]
      refine wpAnyH_take (i := 7) (v := .slice (some ⟨b', off', none⟩) m d') (lit rfl) (by kernel_rfl) (by kernel_rfl) (by kernel_rfl) (fun _ _ _ h => h) (Or.inl ⟨by rfl, ?_⟩) hSd ?_
      · rintro w6 ⟨⟨k1', k2', k3'⟩, k4', k5', k6'⟩
        go_simp
      simp only [Act.put, List.setIfInBounds_toArray, List.set_cons_zero, List.set_cons_succ]
      refine wpAnyH_take (i := 8) (v := .int .i64 (k : Int)) (lit rfl) (by kernel_rfl) (by kernel_rfl) (by kernel_rfl) (fun _ _ _ h => h) (Or.inl ⟨by rfl, ?_⟩) hSd ?_
      · rintro w6 ⟨⟨k1', k2', k3'⟩, k4', k5', k6'⟩
        go_simp
      simp only [Act.put, List.setIfInBounds_toArray, List.set_cons_zero, List.set_cons_succ]
      refine wpAnyH_take (i := 9) (v := .pointer (some ⟨b', off' + k * 2, none⟩)) (lit rfl) (by kernel_rfl) (by kernel_rfl) (by kernel_rfl) (fun _ _ _ h => h) (Or.inl ⟨by rfl, ?_⟩) hSd ?_
      · rintro w6 ⟨⟨k1', k2', k3'⟩, k4', k5', k6'⟩
        go_simp
      simp only [Act.put, List.setIfInBounds_toArray, List.set_cons_zero, List.set_cons_succ]
      refine wpAnyH_take (i := 10) (v := .pointer (some ⟨b', off' + k * 2, none⟩)) (lit rfl) (by kernel_rfl) (by kernel_rfl) (by kernel_rfl) (fun _ _ _ h => h) (Or.inl ⟨by rfl, ?_⟩) hSd ?_
      · rintro w6 ⟨⟨k1', k2', k3'⟩, k4', k5', k6'⟩
        go_simp
      simp only [Act.put, List.setIfInBounds_toArray, List.set_cons_zero, List.set_cons_succ]
      refine wpAnyH_take (i := 11) (v := .int .u64 (t : Int)) (lit rfl) (by kernel_rfl) (by kernel_rfl) (by kernel_rfl) (fun _ _ _ h => h) (Or.inl ⟨by rfl, ?_⟩) hSd ?_
      · rintro w6 ⟨⟨k1', k2', k3'⟩, k4', k5', k6'⟩
        go_simp
      simp only [Act.put, List.setIfInBounds_toArray, List.set_cons_zero, List.set_cons_succ]
      refine wpAnyH_take (i := 12) (v := .bool false) (lit rfl) (by kernel_rfl) (by kernel_rfl) (by kernel_rfl) (fun _ _ _ h => h) (Or.inl ⟨by rfl, ?_⟩) hSd ?_
      · rintro w6 ⟨⟨k1', k2', k3'⟩, k4', k5', k6'⟩
        go_simp
      simp only [Act.put, List.setIfInBounds_toArray, List.set_cons_zero, List.set_cons_succ]
      refine wpAnyH_take (i := 13) (v := .bool false) (lit rfl) (by kernel_rfl) (by kernel_rfl) (by kernel_rfl) (fun _ _ _ h => h) (Or.inl ⟨by rfl, ?_⟩) hSd ?_
      · rintro w6 ⟨⟨k1', k2', k3'⟩, k4', k5', k6'⟩
        go_simp
      simp only [Act.put, List.setIfInBounds_toArray, List.set_cons_zero, List.set_cons_succ]
      refine wpAnyH_take (i := 14) (v := .pointer (some ⟨w.heap.size, 2, none⟩)) (lit rfl) (by kernel_rfl) (by kernel_rfl) (by kernel_rfl) (fun _ _ _ h => h) (Or.inl ⟨by rfl, ?_⟩) hSd ?_
      · rintro w6 ⟨⟨k1', k2', k3'⟩, k4', k5', k6'⟩
        go_simp
      simp only [Act.put, List.setIfInBounds_toArray, List.set_cons_zero, List.set_cons_succ]
      refine wpAnyH_take (i := 15) (v := .slice (some ⟨b, off, none⟩) m d) (lit rfl) (by kernel_rfl) (by kernel_rfl) (by kernel_rfl) (fun _ _ _ h => h) (Or.inl ⟨by rfl, ?_⟩) hSd ?_
      · rintro w6 ⟨⟨k1', k2', k3'⟩, k4', k5', k6'⟩
        go_simp
      simp only [Act.put, List.setIfInBounds_toArray, List.set_cons_zero, List.set_cons_succ]
      refine wpAnyH_take (i := 16) (v := .int .i64 (k : Int)) (lit rfl) (by kernel_rfl) (by kernel_rfl) (by kernel_rfl) (fun _ _ _ h => h) (Or.inl ⟨by rfl, ?_⟩) hSd ?_
      · rintro w6 ⟨⟨k1', k2', k3'⟩, k4', k5', k6'⟩
        go_simp
      simp only [Act.put, List.setIfInBounds_toArray, List.set_cons_zero, List.set_cons_succ]
      refine wpAnyH_take (i := 17) (v := .pointer (some ⟨b, off + k * 2, none⟩)) (lit rfl) (by kernel_rfl) (by kernel_rfl) (by kernel_rfl) (fun _ _ _ h => h) (Or.inl ⟨by rfl, ?_⟩) hSd ?_
      · rintro w6 ⟨⟨k1', k2', k3'⟩, k4', k5', k6'⟩
        go_simp
      simp only [Act.put, List.setIfInBounds_toArray, List.set_cons_zero, List.set_cons_succ]
      refine wpAnyH_take (i := 18) (v := .pointer (some ⟨b, off + k * 2 + 1, none⟩)) (lit rfl) (by kernel_rfl) (by kernel_rfl) (by kernel_rfl) (fun _ _ _ h => h) (Or.inl ⟨by rfl, ?_⟩) hSd ?_
      · rintro w6 ⟨⟨k1', k2', k3'⟩, k4', k5', k6'⟩
        go_simp
      simp only [Act.put, List.setIfInBounds_toArray, List.set_cons_zero, List.set_cons_succ]
      refine wpAnyH_take (i := 19) (v := .slice A2 n3 c2) (lit rfl) (by kernel_rfl) (by kernel_rfl) (by kernel_rfl) (fun _ _ _ h => h) (Or.inl ⟨by rfl, ?_⟩) hSd ?_
      · rintro w6 ⟨⟨k1', k2', k3'⟩, k4', k5', k6'⟩
        go_simp
      simp only [Act.put, List.setIfInBounds_toArray, List.set_cons_zero, List.set_cons_succ]
      refine wpAnyH_take (i := 20) (v := .pointer (some ⟨w.heap.size + 1, 2, none⟩)) (lit rfl) (by kernel_rfl) (by kernel_rfl) (by kernel_rfl) (fun _ _ _ h => h) (Or.inl ⟨by rfl, ?_⟩) hSd ?_
      · rintro w6 ⟨⟨k1', k2', k3'⟩, k4', k5', k6'⟩
        go_simp
      simp only [Act.put, List.setIfInBounds_toArray, List.set_cons_zero, List.set_cons_succ]
      refine wpAnyH_take (i := 21) (v := .slice (some ⟨b', off', none⟩) m d') (lit rfl) (by kernel_rfl) (by kernel_rfl) (by kernel_rfl) (fun _ _ _ h => h) (Or.inl ⟨by rfl, ?_⟩) hSd ?_
      · rintro w6 ⟨⟨k1', k2', k3'⟩, k4', k5', k6'⟩
        go_simp
      simp only [Act.put, List.setIfInBounds_toArray, List.set_cons_zero, List.set_cons_succ]
      refine wpAnyH_take (i := 22) (v := .int .i64 (k : Int)) (lit rfl) (by kernel_rfl) (by kernel_rfl) (by kernel_rfl) (fun _ _ _ h => h) (Or.inl ⟨by rfl, ?_⟩) hSd ?_
      · rintro w6 ⟨⟨k1', k2', k3'⟩, k4', k5', k6'⟩
        go_simp
      simp only [Act.put, List.setIfInBounds_toArray, List.set_cons_zero, List.set_cons_succ]
      refine wpAnyH_take (i := 23) (v := .pointer (some ⟨b', off' + k * 2, none⟩)) (lit rfl) (by kernel_rfl) (by kernel_rfl) (by kernel_rfl) (fun _ _ _ h => h) (Or.inl ⟨by rfl, ?_⟩) hSd ?_
      · rintro w6 ⟨⟨k1', k2', k3'⟩, k4', k5', k6'⟩
        go_simp
      simp only [Act.put, List.setIfInBounds_toArray, List.set_cons_zero, List.set_cons_succ]
      refine wpAnyH_take (i := 24) (v := .pointer (some ⟨b', off' + k * 2 + 1, none⟩)) (lit rfl) (by kernel_rfl) (by kernel_rfl) (by kernel_rfl) (fun _ _ _ h => h) (Or.inl ⟨by rfl, ?_⟩) hSd ?_
      · rintro w6 ⟨⟨k1', k2', k3'⟩, k4', k5', k6'⟩
        go_simp
      simp only [Act.put, List.setIfInBounds_toArray, List.set_cons_zero, List.set_cons_succ]
      refine wpAnyH_take (i := 25) (v := .slice A3 n3 c3) (lit rfl) (by kernel_rfl) (by kernel_rfl) (by kernel_rfl) (fun _ _ _ h => h) (Or.inl ⟨by rfl, ?_⟩) hSd ?_
      · rintro w6 ⟨⟨k1', k2', k3'⟩, k4', k5', k6'⟩
        go_simp
      simp only [Act.put, List.setIfInBounds_toArray, List.set_cons_zero, List.set_cons_succ]
      refine wpAnyH_ready (rs := [26]) (by kernel_rfl) (by simp) ?_
      refine AllReadyH.cons (lit rfl) (fun K5 hK5 => ?_) AllReadyH.nil
      go_simp
      go_at_call 35
      (with_reducible refine (HIN.out _ (Below.refl _ _).drew).mono ?_)
      rintro e7 w7 ⟨rfl, b7⟩
      have B7 : Hid (Below wr.heap.size wr w7) := Lib.hid (below_step (Below.refl _ wr).drew b7)
      have hS7 : (fun w' : World => (w'.cell? ⟨w.heap.size, 2, none⟩ = some (.slice (some ⟨b, off, none⟩) m d) ∧ w'.cell? ⟨b, off + k * 2, none⟩ = some (.int .u64 (t : Int)) ∧ w'.cell? ⟨b, off + k * 2 + 1, none⟩ = some (.slice A2 n3 c2)) ∧ w'.cell? ⟨w.heap.size + 1, 2, none⟩ = some (.slice (some ⟨b', off', none⟩) m d') ∧ w'.cell? ⟨b', off' + k * 2, none⟩ = some (.int .u64 (t : Int)) ∧ w'.cell? ⟨b', off' + k * 2 + 1, none⟩ = some (.slice A3 n3 c3)) w7 := HSS.out w7 B7.out
      refine hK5.out _ _ hS7 (fun _ => ?_)
      clear hK5 K5
      refine wpAnyH_take (i := 27) (v := .bool false) (lit rfl) (by kernel_rfl) (by kernel_rfl) (by kernel_rfl) (fun _ _ _ h => h) (Or.inl ⟨by rfl, ?_⟩) hS7 ?_
      · rintro w6 ⟨⟨k1', k2', k3'⟩, k4', k5', k6'⟩
        go_simp
      simp only [Act.put, List.setIfInBounds_toArray, List.set_cons_zero, List.set_cons_succ]
      refine wpAnyH_take (i := 28) (v := .bool false) (lit rfl) (by kernel_rfl) (by kernel_rfl) (by kernel_rfl) (fun _ _ _ h => h) (Or.inl ⟨by rfl, ?_⟩) hS7 ?_
      · rintro w6 ⟨⟨k1', k2', k3'⟩, k4', k5', k6'⟩
        go_simp
      simp only [Act.put, List.setIfInBounds_toArray, List.set_cons_zero, List.set_cons_succ]
      refine wpAnyH_done (by kernel_rfl) ?_ _
      refine hK _ _ ?_
      go_wp2
      go_roundw
      case rel => exact ⟨k + 1, by omega, by go_num, below_step HB2.out B7.out⟩
      case measure => simp [intOf]; omega
    · obtain rfl : k = m := by omega
      have hltI : ¬ (k : Int) < (k : Int) := by omega
      obtain ⟨w3, hw3⟩ : ∃ w3 : World, w3 = wr := ⟨_, rfl⟩
      subst hw3
      clear hB hha hhb hpa hpb
      go_wp2
      go_ret
      exact ⟨rfl, HBW.out _ HB2.out⟩
def smallP (p : Pd) : Bool := decide (p.free.length + (catZ p.wait).length ≤ 200) && (decide (p.wait.length ≤ 40) && (decide (p.hi < 1048576) && decide (-4096 < p.hi)))
theorem catTo_few {l : List (Nat × List Int)} (h : ∀ x ∈ l, x.2.length ≤ 140737488355328) (k : Nat) (hk : k ≤ l.length) : (catTo l k).length ≤ k * 140737488355328 := by
  induction k with
  | zero => simp [catTo]
  | succ k ih =>
    have hx : l[k]? = some l[k] := List.getElem?_eq_getElem hk
    rw [catTo_more hx, List.length_append]
    have := ih (by omega)
    have := h _ (List.getElem_mem hk)
    omega
set_option maxRecDepth 100000 in
set_option maxHeartbeats 4000000 in
theorem small13_any (p : Pd) (h : Int) (hhi : p.hi = h) (hp : PoolA w A n c B m d p) (hf : p.free.length ≤ 140737488355328) (hw : ∀ x ∈ p.wait, x.2.length ≤ 140737488355328) :
    Calls Try.prog 8 #[.agg #[.int .i64 h, .slice A n c, .slice B m d]] w fun e w' => e = .returned (.bool (smallP p)) ∧ Below w.heap.size w w' := by
  obtain ⟨W1, hW1⟩ : ∃ W1, w.alloc (.cells #[.int .i64 h, .slice A n c, .slice B m d] 25) = W1 := ⟨_, rfl⟩
  have HX := Lib.hid (BoxP.made (h := h) hp hW1)
  have HW := Lib.hid hW1
  have HM := Lib.hid hp.wait.len
  have HF := Lib.hid hp.free.len
  have HHI := Lib.hid hhi
  have hmm : m ≤ 9223372036854775807 := by have h1 := hp.wait.room; have h2 := hp.wait.most; unfold maxLen at h2; omega
  obtain ⟨hh0, hpa0⟩ := HX.out W1 (Below.refl _ _)
  have d1 := hh0.cell 1
  have HB := Lib.hid (below_box hW1 (Below.refl _ _))
  have HFB := Lib.hid hf
  have HWB := Lib.hid hw
  have HNB : Hid (n ≤ 140737488355328) := Lib.hid (by rw [hp.free.len]; exact hf)
  rw [← HW.out] at d1
  clear hp hW1 hh0 hpa0 hf hw
  by_cases h40 : m ≤ 40
  · go_enter Try.func8, Try.ntmps8
    go_wp2
    go_loopw [3, 4] (fun v i wr => ∃ k : Nat, k ≤ m ∧ i = .int .i64 (k : Int) ∧ v = .int .i64 ((n + (catTo p.wait k).length : Nat) : Int) ∧ wr = W1) (fun _ i _ => m - (intOf i).toNat)
    case atStart => exact ⟨0, Nat.zero_le _, rfl, by simp [catTo], HW.out⟩
    case round =>
      obtain ⟨k, hk, rfl, rfl, rfl⟩ := hrel
      obtain ⟨hh, hpa⟩ := HX.out wr (Below.refl _ _)
      have d0 := hh.cell 0
      have d2 := hh.cell 2
      by_cases hlt : k < m
      · obtain ⟨b, off, rfl, hbl, hel⟩ := hpa.wait.reads (by omega)
        have hkl : k < p.wait.length := by have := HM.out; omega
        obtain ⟨x, hx⟩ : ∃ x, p.wait[k]? = some x := ⟨_, List.getElem?_eq_getElem hkl⟩
        obtain ⟨_, A2, n2, c2, d3, hr2⟩ := hel k x hx
        have HC := Lib.hid (catTo_more hx)
        have hfew := catTo_few HWB.out (k + 1) hkl
        have hbnd : (catTo p.wait k).length + n2 = (catTo p.wait (k + 1)).length := by rw [HC.out, List.length_append, hr2.len]
        have HBN := Lib.hid hbnd
        have k0 : (0 : Int) ≤ (k : Int) := by omega
        have k1 : (k : Int) < (m : Int) := by omega
        have hb2 : n + (catTo p.wait k).length + n2 ≤ 9000000000000000 := by have := HNB.out; omega
        obtain ⟨q, hq⟩ : ∃ q, (catTo p.wait k).length = q := ⟨_, rfl⟩
        rw [hq] at HBN hb2 ⊢
        clear hh hpa hel hr2 hbl hx hkl hq hbnd hfew
        go_wp2
        go_roundw
        case rel => exact ⟨k + 1, by omega, by go_num, by rw [← HBN.out]; go_num, trivial⟩
        case measure => simp [intOf]; omega
      · obtain rfl : k = m := by omega
        have hltI : ¬ (k : Int) < (k : Int) := by omega
        have HC := Lib.hid (catTo_all HM.out)
        have HSM : Hid (smallP p = (decide (n + (catZ p.wait).length ≤ 200) && (decide (h < 1048576) && decide (-4096 < h)))) := Lib.hid (by unfold smallP; rw [← HM.out, ← HF.out, HHI.out]; simp [h40])
        rw [HC.out]
        have h40I : (k : Int) ≤ 40 := by omega
        obtain ⟨q, hq⟩ : ∃ q, n + (catZ p.wait).length = q := ⟨_, rfl⟩
        rw [hq] at HSM ⊢
        have hle : decide ((q : Int) ≤ 200) = decide (q ≤ 200) := decide_eq_decide.2 (by omega)
        clear hh hpa hq
        go_wp2
        all_goals
          go_ret
          rw [HSM.out]
          exact ⟨by clear d1 HX HW HM HF HHI HFB HWB HNB HC HSM HB; first | (simp; done) | (simp [*]; done) | (simp; omega), HB.out⟩
  · have h40I : ¬ (m : Int) ≤ 40 := by omega
    have HSM : Hid (smallP p = false) := Lib.hid (by unfold smallP; rw [← HM.out]; simp [h40])
    go_enter Try.func8, Try.ntmps8
    go_wp2
    go_loopw [3, 4] (fun v i wr => ∃ (k : Nat) (z : Int), k ≤ m ∧ i = .int .i64 (k : Int) ∧ v = .int .i64 z ∧ wr = W1) (fun _ i _ => m - (intOf i).toNat)
    case atStart => exact ⟨0, _, Nat.zero_le _, rfl, rfl, HW.out⟩
    case round =>
      obtain ⟨k, z, hk, rfl, rfl, rfl⟩ := hrel
      obtain ⟨hh, hpa⟩ := HX.out wr (Below.refl _ _)
      have d0 := hh.cell 0
      have d2 := hh.cell 2
      by_cases hlt : k < m
      · obtain ⟨b, off, rfl, hbl, hel⟩ := hpa.wait.reads (by omega)
        have hkl : k < p.wait.length := by have := HM.out; omega
        obtain ⟨x, hx⟩ : ∃ x, p.wait[k]? = some x := ⟨_, List.getElem?_eq_getElem hkl⟩
        obtain ⟨_, A2, n2, c2, d3, hr2⟩ := hel k x hx
        have k0 : (0 : Int) ≤ (k : Int) := by omega
        have k1 : (k : Int) < (m : Int) := by omega
        clear hh hpa hel hr2 hbl hx hkl
        go_wp2
        go_roundw
        case rel => exact ⟨k + 1, _, by omega, by go_num, rfl, trivial⟩
        case measure => simp [intOf]; omega
      · obtain rfl : k = m := by omega
        have hltI : ¬ (k : Int) < (k : Int) := by omega
        clear hh hpa
        go_wp2
        all_goals
          go_ret
          rw [HSM.out]
          exact ⟨by simp, HB.out⟩
end
end Go.Proofs.Ytoelojlabmconaa
end

section
namespace Go.Proofs.Ytoelojlabmconaa
open Go.RowKit
set_option linter.unusedVariables false

section
variable {P : Program} {ops : Array Oper} {Q : Exit → Act → World → Prop} {md : Region.Mode} {C : World → Prop} {k : Nat}
def wpAnyK (P : Program) (md : Region.Mode) (ops : Array Oper) (Q : Exit → Act → World → Prop) (C : World → Prop) (k : Nat) : Nat → Array Bool → Act → World → Prop
  | 0, listed, a, w => Region.ready md ops listed = [] ∧ Q .normal a w
  | fuel + 1, listed, a, w =>
    (Region.ready md ops listed = [] → Q .normal a w) ∧
    ∀ i ∈ Region.ready md ops listed, wpOp P ops Q i (fun a' w' => ((listed.setIfInBounds i true).getD k false = true ∨ C w') ∧ wpAnyK P md ops Q C k fuel (listed.setIfInBounds i true) a' w') a w
theorem wpAny_of_K : ∀ (fuel : Nat) (listed : Array Bool) (a : Act) (w : World), wpAnyK P md ops Q C k fuel listed a w → wpAny P md ops Q fuel listed a w
  | 0, _, _, _, h => h
  | fuel + 1, _, _, _, h => ⟨h.1, fun i hi => wpOp_mono (fun a' w' h' => wpAny_of_K fuel _ a' w' h'.2) (h.2 i hi)⟩
theorem ready_waits {i : Nat} {oj : Oper} {listed : Array Bool} (hr : i ∈ Region.ready md ops listed) (hall : ∀ e ∈ oj.after, Region.binds md e = true → listed.getD e.on false = true) : ∀ e ∈ oj.after, Region.binds md e = true → e.on ≠ i := fun e he hb heq => by
  have h1 := hall e he hb
  have h0 := (mem_ready.1 hr).1
  rw [heq] at h1
  rcases Nat.lt_or_ge i listed.size with h' | h'
  · simp [h'] at h0 h1; rw [h0] at h1; cases h1
  · simp [Array.getElem?_eq_none h'] at h1
theorem wpAnyK_first {i : Nat} {oi : Oper} {v : Value} (hi : ops[i]? = some oi) (hsel : ∀ (j : Nat) (o : Oper) cs b, ops[j]? = some o → o.op ≠ .select cs b)
    (hQ : ∀ c a w, Q (.panic c) (a.put oi.dst v) w → Q (.panic c) a w) (hk : Region.waitsFor md ops k i = true) (hki : k ≠ i) :
    ∀ (fuel : Nat) (listed : Array Bool) (a : Act) (w : World),
      (∀ j oj, ops[j]? = some oj → j ≠ i → listed.getD j true = false → (∀ e ∈ oj.after, Region.binds md e = true → e.on ≠ i) → oi.apart ops oj = true) →
      i ∈ Region.ready md ops listed → listed.getD k false = false → YieldsIf P ops C oi v a → C w →
      wpAnyK P md ops Q C k fuel (listed.setIfInBounds i true) (a.put oi.dst v) w → wpAnyK P md ops Q C k (fuel + 1) listed a w := by
  intro fuel
  induction fuel with
  | zero =>
    intro listed a w _ hr hkl hy hS H
    refine ⟨fun h => (by rw [h] at hr; cases hr), fun j hj => ?_⟩
    by_cases hji : j = i
    · subst hji; exact hy.wpOp hi hS ⟨.inr hS, H⟩
    · have := ready_mono hj hji
      rw [H.1] at this
      cases this
  | succ fuel ih =>
    intro listed a w hfree hr hkl hy hS H
    refine ⟨fun h => (by rw [h] at hr; cases hr), fun j hj => ?_⟩
    by_cases hji : j = i
    · subst hji; exact hy.wpOp hi hS ⟨.inr hS, H⟩
    · have h1 := H.2 j (ready_mono hj hji)
      obtain ⟨hjun, oj, hoj, hall⟩ := mem_ready.1 hj
      have hnot := ready_waits (oj := oj) hr hall
      have hjk : k ≠ j := fun e => by
        subst e
        obtain ⟨ok, hok, e, he, hb, hon⟩ := Region.waitsFor_spec hk
        rw [hoj] at hok
        injection hok with hok
        subst hok
        exact hnot e he hb hon
      have h2 := wpOp_putIf hoj (hfree j oj hoj hji hjun hnot) (fun cs b => hsel i oi cs b hi) (fun cs b => hsel j oj cs b hoj) hQ hy h1
      have hfree' : ∀ k ok, ops[k]? = some ok → k ≠ i → (listed.setIfInBounds j true).getD k true = false →
          (∀ e ∈ ok.after, Region.binds md e = true → e.on ≠ i) → oi.apart ops ok = true := fun k ok hk hki hun hno => by
        refine hfree k ok hk hki ?_ hno
        by_cases hjk : j = k
        · subst hjk; exact hjun
        · rw [getD_set_ne true hjk] at hun; exact hun
      have hkl' : (listed.setIfInBounds j true).getD k false = false := by rw [getD_set_ne false (Ne.symm hjk)]; exact hkl
      refine wpOp_mono (fun a' w' h3 => ?_) h2
      have hC' : C w' := by
        rcases h3.2.1 with h | h
        · rw [getD_set_ne false (Ne.symm hjk), getD_set_ne false (Ne.symm hki), hkl] at h
          cases h
        · exact h
      refine ⟨.inr hC', ih (listed.setIfInBounds j true) a' w' hfree' (ready_mono hr (Ne.symm hji)) hkl' h3.1 hC' ?_⟩
      rw [Array.setIfInBounds_comm _ _ hji]
      exact h3.2.2
theorem wpAnyK_firstP {i : Nat} {oi : Oper} {v : Value} (hi : ops[i]? = some oi) (hsel : ∀ (j : Nat) (o : Oper) cs b, ops[j]? = some o → o.op ≠ .select cs b)
    (hQ : ∀ c a w, Q (.panic c) (a.put oi.dst v) w → Q (.panic c) a w) (hki : k ≠ i) :
    ∀ (fuel : Nat) (listed : Array Bool) (a : Act) (w : World),
      (∀ j oj, ops[j]? = some oj → j ≠ i → listed.getD j true = false → (∀ e ∈ oj.after, Region.binds md e = true → e.on ≠ i) → oi.apart ops oj = true) →
      i ∈ Region.ready md ops listed → (listed.getD k false = true ∨ C w) → YieldsIf P ops (fun _ => True) oi v a →
      wpAnyK P md ops Q C k fuel (listed.setIfInBounds i true) (a.put oi.dst v) w → wpAnyK P md ops Q C k (fuel + 1) listed a w := by
  intro fuel
  induction fuel with
  | zero =>
    intro listed a w _ hr hS hy H
    refine ⟨fun h => (by rw [h] at hr; cases hr), fun j hj => ?_⟩
    by_cases hji : j = i
    · subst hji; exact hy.wpOp hi trivial ⟨hS.imp (fun h => by rw [getD_set_ne false (Ne.symm hki)]; exact h) id, H⟩
    · have := ready_mono hj hji
      rw [H.1] at this
      cases this
  | succ fuel ih =>
    intro listed a w hfree hr hS hy H
    refine ⟨fun h => (by rw [h] at hr; cases hr), fun j hj => ?_⟩
    by_cases hji : j = i
    · subst hji; exact hy.wpOp hi trivial ⟨hS.imp (fun h => by rw [getD_set_ne false (Ne.symm hki)]; exact h) id, H⟩
    · have h1 := H.2 j (ready_mono hj hji)
      obtain ⟨hjun, oj, hoj, hall⟩ := mem_ready.1 hj
      have hnot := ready_waits (oj := oj) hr hall
      have h2 := wpOp_putIf hoj (hfree j oj hoj hji hjun hnot) (fun cs b => hsel i oi cs b hi) (fun cs b => hsel j oj cs b hoj) hQ hy h1
      have hfree' : ∀ k ok, ops[k]? = some ok → k ≠ i → (listed.setIfInBounds j true).getD k true = false →
          (∀ e ∈ ok.after, Region.binds md e = true → e.on ≠ i) → oi.apart ops ok = true := fun k ok hk hki hun hno => by
        refine hfree k ok hk hki ?_ hno
        by_cases hjk : j = k
        · subst hjk; exact hjun
        · rw [getD_set_ne true hjk] at hun; exact hun
      refine wpOp_mono (fun a' w' h3 => ?_) h2
      have hC' : (listed.setIfInBounds j true).getD k false = true ∨ C w' := by
        refine h3.2.1.imp (fun h => ?_) id
        rw [Array.setIfInBounds_comm _ _ (Ne.symm hji), getD_set_ne false (Ne.symm hki)] at h
        exact h
      refine ⟨hC', ih (listed.setIfInBounds j true) a' w' hfree' (ready_mono hr (Ne.symm hji)) hC' h3.1 ?_⟩
      rw [Array.setIfInBounds_comm _ _ hji]
      exact h3.2.2
theorem wpAnyK_take {i : Nat} {oi : Oper} {v : Value} {fuel : Nat} {listed : Array Bool} {a : Act} {w : World} (hi : ops[i]? = some oi)
    (hs : Region.noSelect ops = true) (hf : Region.free md ops listed i = true) (hr : (Region.ready md ops listed).contains i = true) (hk : Region.waitsFor md ops k i = true) (hki : k ≠ i) (hkl : listed.getD k false = false)
    (hQ : ∀ c a w, Q (.panic c) (a.put oi.dst v) w → Q (.panic c) a w) (hy : YieldsIf P ops C oi v a) (hS : C w)
    (h : wpAnyK P md ops Q C k fuel (listed.setIfInBounds i true) (a.put oi.dst v) w) : wpAnyK P md ops Q C k (fuel + 1) listed a w :=
  wpAnyK_first hi (Region.noSelect_spec hs) hQ hk hki fuel listed a w (Region.free_spec hi hf) (by simpa using hr) hkl hy hS h
theorem wpAnyK_pure {i : Nat} {oi : Oper} {v : Value} {fuel : Nat} {listed : Array Bool} {a : Act} {w : World} (hi : ops[i]? = some oi)
    (hs : Region.noSelect ops = true) (hf : Region.free md ops listed i = true) (hr : (Region.ready md ops listed).contains i = true) (hki : k ≠ i)
    (hQ : ∀ c a w, Q (.panic c) (a.put oi.dst v) w → Q (.panic c) a w) (hy : YieldsIf P ops (fun _ => True) oi v a) (hS : listed.getD k false = true ∨ C w)
    (h : wpAnyK P md ops Q C k fuel (listed.setIfInBounds i true) (a.put oi.dst v) w) : wpAnyK P md ops Q C k (fuel + 1) listed a w :=
  wpAnyK_firstP hi (Region.noSelect_spec hs) hQ hki fuel listed a w (Region.free_spec hi hf) (by simpa using hr) hS hy h
theorem wpAnyK_one {i : Nat} {o : Oper} {fuel : Nat} {listed : Array Bool} {a : Act} {w : World} (hr : Region.ready md ops listed = [i]) (ho : ops[i]? = some o)
    (h : ∀ K' : Act → World → Prop, Shut (∀ a w, ((listed.setIfInBounds i true).getD k false = true ∨ C w) → wpAnyK P md ops Q C k fuel (listed.setIfInBounds i true) a w → K' a w) → if Region.wanted o (yielded ops a.tmps) = true then Oper.wp P o a w K' Q else K' (a.put o.dst undef) w) :
    wpAnyK P md ops Q C k (fuel + 1) listed a w :=
  ⟨fun h0 => (by rw [hr] at h0; cases h0), fun j hj => by
    rw [hr] at hj
    obtain rfl : j = i := by simpa using hj
    exact wpOp_step ho (fun K' hK => h K' (fun a w hS hW => hK a w ⟨hS, hW⟩))⟩
theorem wpAnyK_done {listed : Array Bool} {a : Act} {w : World} (hr : Region.ready md ops listed = []) (h : Q .normal a w) :
    ∀ fuel, wpAnyK P md ops Q C k fuel listed a w
  | 0 => ⟨hr, h⟩
  | _ + 1 => ⟨fun _ => h, by rw [hr]; simp⟩
theorem wp_heldK {id : Nat} {K : Act → World → Prop} {a : Act} {w : World} (C : World → Prop) (k : Nat) (M : Act → World → Prop)
    (hm : P.follows .mixedOrders = true)
    (h : wpAnyK P .any ops (Runs M) C k ops.size (Array.replicate ops.size false) a w.drew) (h2 : ∀ a w, M a w → K a w) : (Code.region id ops true).wp P (Exit.then K Q) a w :=
  wp_mono (Q := Runs M) (wp_region_any hm (wpAny_of_K _ _ _ _ h)) (fun e a w h => by cases e <;> first | exact h2 _ _ h | exact False.elim h)
theorem wp_heldQ {id : Nat} {a : Act} {w : World} (C : World → Prop) (k : Nat) (hm : P.follows .mixedOrders = true)
    (h : wpAnyK P .any ops (Runs (Q .normal)) C k ops.size (Array.replicate ops.size false) a w.drew) : (Code.region id ops true).wp P Q a w :=
  wp_mono (Q := Runs (Q .normal)) (wp_region_any hm (wpAny_of_K _ _ _ _ h)) (fun e a w h => by cases e <;> first | exact h | exact False.elim h)
end

end Go.Proofs.Ytoelojlabmconaa
end

section
namespace Go.Proofs.Ytoelojlabmconaa
open Go.RowKit
set_option linter.unusedVariables false

section
variable {P : Program} {ops : Array Oper} {Q : Exit → Act → World → Prop} {md : Region.Mode} {C S : World → Prop} {k : Nat}
def wpAnyJ (P : Program) (md : Region.Mode) (ops : Array Oper) (Q : Exit → Act → World → Prop) (C S : World → Prop) (k : Nat) : Nat → Array Bool → Act → World → Prop
  | 0, listed, a, w => Region.ready md ops listed = [] ∧ Q .normal a w
  | fuel + 1, listed, a, w =>
    (Region.ready md ops listed = [] → Q .normal a w) ∧
    ∀ i ∈ Region.ready md ops listed, wpOp P ops Q i (fun a' w' => (((listed.setIfInBounds i true).getD k false = true ∨ C w') ∧ S w') ∧ wpAnyJ P md ops Q C S k fuel (listed.setIfInBounds i true) a' w') a w
theorem wpAny_of_J : ∀ (fuel : Nat) (listed : Array Bool) (a : Act) (w : World), wpAnyJ P md ops Q C S k fuel listed a w → wpAny P md ops Q fuel listed a w
  | 0, _, _, _, h => h
  | fuel + 1, _, _, _, h => ⟨h.1, fun i hi => wpOp_mono (fun a' w' h' => wpAny_of_J fuel _ a' w' h'.2) (h.2 i hi)⟩
theorem wpAnyJ_first {i : Nat} {oi : Oper} {v : Value} (hi : ops[i]? = some oi) (hsel : ∀ (j : Nat) (o : Oper) cs b, ops[j]? = some o → o.op ≠ .select cs b)
    (hQ : ∀ c a w, Q (.panic c) (a.put oi.dst v) w → Q (.panic c) a w) (hk : Region.waitsFor md ops k i = true) (hki : k ≠ i) :
    ∀ (fuel : Nat) (listed : Array Bool) (a : Act) (w : World),
      (∀ j oj, ops[j]? = some oj → j ≠ i → listed.getD j true = false → (∀ e ∈ oj.after, Region.binds md e = true → e.on ≠ i) → oi.apart ops oj = true) →
      i ∈ Region.ready md ops listed → listed.getD k false = false → YieldsIf P ops C oi v a → C w → S w →
      wpAnyJ P md ops Q C S k fuel (listed.setIfInBounds i true) (a.put oi.dst v) w → wpAnyJ P md ops Q C S k (fuel + 1) listed a w := by
  intro fuel
  induction fuel with
  | zero =>
    intro listed a w _ hr hkl hy hC hS H
    refine ⟨fun h => (by rw [h] at hr; cases hr), fun j hj => ?_⟩
    by_cases hji : j = i
    · subst hji; exact hy.wpOp hi hC ⟨⟨.inr hC, hS⟩, H⟩
    · have := ready_mono hj hji
      rw [H.1] at this
      cases this
  | succ fuel ih =>
    intro listed a w hfree hr hkl hy hC hS H
    refine ⟨fun h => (by rw [h] at hr; cases hr), fun j hj => ?_⟩
    by_cases hji : j = i
    · subst hji; exact hy.wpOp hi hC ⟨⟨.inr hC, hS⟩, H⟩
    · have h1 := H.2 j (ready_mono hj hji)
      obtain ⟨hjun, oj, hoj, hall⟩ := mem_ready.1 hj
      have hnot := ready_waits (oj := oj) hr hall
      have hjk : k ≠ j := fun e => by
        subst e
        obtain ⟨ok, hok, e, he, hb, hon⟩ := Region.waitsFor_spec hk
        rw [hoj] at hok
        injection hok with hok
        subst hok
        exact hnot e he hb hon
      have h2 := wpOp_putIf hoj (hfree j oj hoj hji hjun hnot) (fun cs b => hsel i oi cs b hi) (fun cs b => hsel j oj cs b hoj) hQ hy h1
      have hfree' : ∀ k ok, ops[k]? = some ok → k ≠ i → (listed.setIfInBounds j true).getD k true = false →
          (∀ e ∈ ok.after, Region.binds md e = true → e.on ≠ i) → oi.apart ops ok = true := fun k ok hk hki hun hno => by
        refine hfree k ok hk hki ?_ hno
        by_cases hjk : j = k
        · subst hjk; exact hjun
        · rw [getD_set_ne true hjk] at hun; exact hun
      have hkl' : (listed.setIfInBounds j true).getD k false = false := by rw [getD_set_ne false (Ne.symm hjk)]; exact hkl
      refine wpOp_mono (fun a' w' h3 => ?_) h2
      have hC' : C w' := by
        rcases h3.2.1.1 with h | h
        · rw [getD_set_ne false (Ne.symm hjk), getD_set_ne false (Ne.symm hki), hkl] at h
          cases h
        · exact h
      refine ⟨⟨.inr hC', h3.2.1.2⟩, ih (listed.setIfInBounds j true) a' w' hfree' (ready_mono hr (Ne.symm hji)) hkl' h3.1 hC' h3.2.1.2 ?_⟩
      rw [Array.setIfInBounds_comm _ _ hji]
      exact h3.2.2
theorem wpAnyJ_firstS {i : Nat} {oi : Oper} {v : Value} (hi : ops[i]? = some oi) (hsel : ∀ (j : Nat) (o : Oper) cs b, ops[j]? = some o → o.op ≠ .select cs b)
    (hQ : ∀ c a w, Q (.panic c) (a.put oi.dst v) w → Q (.panic c) a w) (hki : k ≠ i) :
    ∀ (fuel : Nat) (listed : Array Bool) (a : Act) (w : World),
      (∀ j oj, ops[j]? = some oj → j ≠ i → listed.getD j true = false → (∀ e ∈ oj.after, Region.binds md e = true → e.on ≠ i) → oi.apart ops oj = true) →
      i ∈ Region.ready md ops listed → (listed.getD k false = true ∨ C w) → S w → YieldsIf P ops S oi v a →
      wpAnyJ P md ops Q C S k fuel (listed.setIfInBounds i true) (a.put oi.dst v) w → wpAnyJ P md ops Q C S k (fuel + 1) listed a w := by
  intro fuel
  induction fuel with
  | zero =>
    intro listed a w _ hr hC hS hy H
    refine ⟨fun h => (by rw [h] at hr; cases hr), fun j hj => ?_⟩
    by_cases hji : j = i
    · subst hji; exact hy.wpOp hi hS ⟨⟨hC.imp (fun h => by rw [getD_set_ne false (Ne.symm hki)]; exact h) id, hS⟩, H⟩
    · have := ready_mono hj hji
      rw [H.1] at this
      cases this
  | succ fuel ih =>
    intro listed a w hfree hr hC hS hy H
    refine ⟨fun h => (by rw [h] at hr; cases hr), fun j hj => ?_⟩
    by_cases hji : j = i
    · subst hji; exact hy.wpOp hi hS ⟨⟨hC.imp (fun h => by rw [getD_set_ne false (Ne.symm hki)]; exact h) id, hS⟩, H⟩
    · have h1 := H.2 j (ready_mono hj hji)
      obtain ⟨hjun, oj, hoj, hall⟩ := mem_ready.1 hj
      have hnot := ready_waits (oj := oj) hr hall
      have h2 := wpOp_putIf hoj (hfree j oj hoj hji hjun hnot) (fun cs b => hsel i oi cs b hi) (fun cs b => hsel j oj cs b hoj) hQ hy h1
      have hfree' : ∀ k ok, ops[k]? = some ok → k ≠ i → (listed.setIfInBounds j true).getD k true = false →
          (∀ e ∈ ok.after, Region.binds md e = true → e.on ≠ i) → oi.apart ops ok = true := fun k ok hk hki hun hno => by
        refine hfree k ok hk hki ?_ hno
        by_cases hjk : j = k
        · subst hjk; exact hjun
        · rw [getD_set_ne true hjk] at hun; exact hun
      refine wpOp_mono (fun a' w' h3 => ?_) h2
      have hC' : (listed.setIfInBounds j true).getD k false = true ∨ C w' := by
        refine h3.2.1.1.imp (fun h => ?_) id
        rw [Array.setIfInBounds_comm _ _ (Ne.symm hji), getD_set_ne false (Ne.symm hki)] at h
        exact h
      refine ⟨⟨hC', h3.2.1.2⟩, ih (listed.setIfInBounds j true) a' w' hfree' (ready_mono hr (Ne.symm hji)) hC' h3.2.1.2 h3.1 ?_⟩
      rw [Array.setIfInBounds_comm _ _ hji]
      exact h3.2.2
theorem wpAnyJ_take {i : Nat} {oi : Oper} {v : Value} {fuel : Nat} {listed : Array Bool} {a : Act} {w : World} (hi : ops[i]? = some oi)
    (hs : Region.noSelect ops = true) (hf : Region.free md ops listed i = true) (hr : (Region.ready md ops listed).contains i = true) (hk : Region.waitsFor md ops k i = true) (hki : k ≠ i) (hkl : listed.getD k false = false)
    (hQ : ∀ c a w, Q (.panic c) (a.put oi.dst v) w → Q (.panic c) a w) (hy : YieldsIf P ops C oi v a) (hC : C w) (hS : S w)
    (h : wpAnyJ P md ops Q C S k fuel (listed.setIfInBounds i true) (a.put oi.dst v) w) : wpAnyJ P md ops Q C S k (fuel + 1) listed a w :=
  wpAnyJ_first hi (Region.noSelect_spec hs) hQ hk hki fuel listed a w (Region.free_spec hi hf) (by simpa using hr) hkl hy hC hS h
theorem wpAnyJ_takeS {i : Nat} {oi : Oper} {v : Value} {fuel : Nat} {listed : Array Bool} {a : Act} {w : World} (hi : ops[i]? = some oi)
    (hs : Region.noSelect ops = true) (hf : Region.free md ops listed i = true) (hr : (Region.ready md ops listed).contains i = true) (hki : k ≠ i)
    (hQ : ∀ c a w, Q (.panic c) (a.put oi.dst v) w → Q (.panic c) a w) (hy : YieldsIf P ops S oi v a) (hC : listed.getD k false = true ∨ C w) (hS : S w)
    (h : wpAnyJ P md ops Q C S k fuel (listed.setIfInBounds i true) (a.put oi.dst v) w) : wpAnyJ P md ops Q C S k (fuel + 1) listed a w :=
  wpAnyJ_firstS hi (Region.noSelect_spec hs) hQ hki fuel listed a w (Region.free_spec hi hf) (by simpa using hr) hC hS hy h
theorem wpAnyJ_one {i : Nat} {o : Oper} {fuel : Nat} {listed : Array Bool} {a : Act} {w : World} (hr : Region.ready md ops listed = [i]) (ho : ops[i]? = some o)
    (h : ∀ K' : Act → World → Prop, Shut (∀ a w, ((listed.setIfInBounds i true).getD k false = true ∨ C w) → S w → wpAnyJ P md ops Q C S k fuel (listed.setIfInBounds i true) a w → K' a w) → if Region.wanted o (yielded ops a.tmps) = true then Oper.wp P o a w K' Q else K' (a.put o.dst undef) w) :
    wpAnyJ P md ops Q C S k (fuel + 1) listed a w :=
  ⟨fun h0 => (by rw [hr] at h0; cases h0), fun j hj => by
    rw [hr] at hj
    obtain rfl : j = i := by simpa using hj
    exact wpOp_step ho (fun K' hK => h K' (fun a w hC hS hW => hK a w ⟨⟨hC, hS⟩, hW⟩))⟩
theorem wpAnyJ_done {listed : Array Bool} {a : Act} {w : World} (hr : Region.ready md ops listed = []) (h : Q .normal a w) :
    ∀ fuel, wpAnyJ P md ops Q C S k fuel listed a w
  | 0 => ⟨hr, h⟩
  | _ + 1 => ⟨fun _ => h, by rw [hr]; simp⟩
theorem wp_heldJQ {id : Nat} {a : Act} {w : World} (C S : World → Prop) (k : Nat) (hm : P.follows .mixedOrders = true)
    (h : wpAnyJ P .any ops (Runs (Q .normal)) C S k ops.size (Array.replicate ops.size false) a w.drew) : (Code.region id ops true).wp P Q a w :=
  wp_mono (Q := Runs (Q .normal)) (wp_region_any hm (wpAny_of_J _ _ _ _ h)) (fun e a w h => by cases e <;> first | exact h | exact False.elim h)
end

end Go.Proofs.Ytoelojlabmconaa
end
