import Derived.Test.YtpaklhifnndeoaaJ21
import Derived.Test.YtpaklhifnndeoaaJ03
import Derived.Deep.Cut
/- Of a claim's texts, joined: Tsb. No statement but in the last. -/
namespace Go.Proofs.Ytpaklhifnndeoaa
open Go.RowKit
set_option linter.unusedVariables false

set_option maxRecDepth 100000 in
set_option maxHeartbeats 16000000 in
theorem walkTreeStays (l : List PA) (A : Option Addr) (n c : Nat) (W : World) (h : RowP W A n c l) :
    Calls Try.prog 4 #[.slice A n c] W fun e W' => e = .returned (.bool true) ∧ Below W.heap.size W W' := by
  have HAW := Lib.hid (awake15_any W)
  have HSM := Lib.hid (fun w1 (b1 : Below W.heap.size W w1) => small15_any l A n c w1 (h.below b1))
  have HR := Lib.hid h
  have HN := Lib.hid h.len
  have hmx : Try.prog.follows .mixedOrders = true := by kernel_rfl
  obtain ⟨sm, hsm⟩ : ∃ b, smallP l = b := ⟨_, rfl⟩
  rw [hsm] at HSM
  clear h
  cases sm
  · clear hsm
    go_enter Try.func4, Try.ntmps4
    go_wp2_with (first
      | (go_at_call 13; (with_reducible refine (HAW.out).mono ?_); rintro e1 w1 ⟨rfl, b1⟩; have B1 := Lib.hid b1; clear b1)
      | (go_at_call 14; (with_reducible refine (HSM.out _ B1.out).mono ?_); rintro e2 w2 ⟨rfl, rfl⟩))
    go_ret
    exact ⟨rfl, B1.out⟩
  have hsm2 : (∀ x ∈ l, okP15 x = true) ∧ l.length ≤ 80 := by
    unfold smallP at hsm
    simp only [Bool.and_eq_true, decide_eq_true_eq, List.all_eq_true] at hsm
    exact hsm
  have HOK := Lib.hid hsm2.1
  have hn80 : n ≤ 80 := by rw [HN.out]; exact hsm2.2
  have HEM := Lib.hid (fun w1 => trEmpty_any w1)
  clear hsm hsm2
  go_enter Try.func4, Try.ntmps4
  go_wp2_with (first
    | (go_at_call 13; (with_reducible refine (HAW.out).mono ?_); rintro e1 w1 ⟨rfl, b1⟩; have B1 := Lib.hid b1; clear b1)
    | (go_at_call 14; (with_reducible refine (HSM.out _ B1.out).mono ?_); rintro e2 w2 ⟨rfl, rfl⟩)
    | (go_at_call 15; (with_reducible refine (HEM.out _).mono ?_); rintro e3 w3 ⟨⟨p1, lf1, kA1, kn1, kc1, vA1, vn1, vc1, dA1, dn1, dc1⟩, rfl, r3, b3⟩; unfold ndV; simp only; have R3 := Lib.hid r3; have B3 := Lib.hid b3; have H13 : Hid (w1.heap.size ≤ w3.heap.size) := Lib.hid b3.size; clear r3 b3))
  obtain ⟨W4, hW4⟩ : ∃ x, w3.alloc (.cells #[.int .i64 p1, .bool lf1, .slice kA1 kn1 kc1, .slice vA1 vn1 vc1, .slice dA1 dn1 dc1] 29) = x := ⟨_, rfl⟩
  have c4 : Below w3.heap.size w3 W4 := hW4 ▸ (Below.refl _ w3).alloc (Nat.le_refl _) _
  have X5 : Has W4 w3.heap.size 29 #[.int .i64 p1, .bool lf1, .slice kA1 kn1 kc1, .slice vA1 vn1 vc1, .slice dA1 dn1 dc1] := hW4 ▸ Has.made w3 29 _
  rw [hW4]
  obtain ⟨P5, hP5⟩ : ∃ P, w3.heap.size = P := ⟨_, rfl⟩
  rw [hP5] at X5
  have hW5 : W.heap.size ≤ P5 := by have h1 := B1.out.size; have h2 := H13.out; omega
  have hI0 : OneI W W4 P5 0 (.leaf 0 []) ⟨p1, lf1, kA1, kn1, kc1, vA1, vn1, vc1, dA1, dn1, dc1⟩ := ⟨X5, RepT.mono (RepT.stay (RepT.old R3.out) c4) (fun g hg => by have := hg.2; omega), gd_empty 0, .inl rfl, below_step B1.out (below_step B3.out c4)⟩
  try rw [hP5]
  have HI0 := Lib.hid hI0
  have HORD : Hid (W.heap.size ≤ P5) := Lib.hid hW5
  clear hI0 hW5 hP5 X5 c4 hW4 R3 B3 H13 B1
  clear w3
  go_loopw [6] (fun i wr => ∃ (k : Nat) (t : Tr) (z : NDV), k ≤ n ∧ i = .int .i64 (k : Int) ∧ OneI W wr P5 k t z) (fun i _ => n - (intOf i).toNat)
  case atStart => exact ⟨0, _, _, Nat.zero_le _, rfl, HI0.out⟩
  case round =>
    obtain ⟨k, t, ⟨p1, lf1, kA1, kn1, kc1, vA1, vn1, vc1, dA1, dn1, dc1⟩, hkk, rfl, hI⟩ := hrel
    have HI := Lib.hid hI
    have HX5 := Lib.hid hI.b
    by_cases hlt : k < n
    · obtain ⟨x, hx⟩ : ∃ x, l[k]? = some x := ⟨_, List.getElem?_eq_getElem (by rw [← HN.out]; exact hlt)⟩
      have hox := cP_ok (HOK.out x (List.mem_of_getElem? hx))
      obtain ⟨gl, offl, rfl, a0, a1, a2⟩ := (HR.out.below hI.bl).at3 hx
      obtain ⟨sk, hsk⟩ : ∃ s : ByteArray, (⟨x.k.toArray⟩ : ByteArray) = s := ⟨_, rfl⟩
      obtain ⟨sv, hsv⟩ : ∃ s : ByteArray, (⟨(valP x).toArray⟩ : ByteArray) = s := ⟨_, rfl⟩
      obtain ⟨bb, hbb⟩ : ∃ b : Nat, x.b.toNat = b := ⟨_, rfl⟩
      obtain ⟨zz, hzz⟩ : ∃ b : Int, x.z = b := ⟨_, rfl⟩
      have HVA := Lib.hid (fun w1 => value15_any x hox.2 w1)
      unfold paV byteV at HVA
      unfold byteV at a1
      have hskl : sk.toList = x.k := by rw [← hsk]; exact Go.ByteArray.toList_mk _
      rw [hsk] at a0
      rw [hbb] at a1
      rw [hzz] at a2
      rw [hsk, hsv, hbb, hzz] at HVA
      have HPU := Lib.hid (fun (w' : World) (hb : Below wr.heap.size wr w') => hI.gd.put (cP x) hox.1 rfl _ _ w' (hI.rt.stay hb))
      have hgdp := gd_put (cP x) hox.1 rfl hI.gd
      have hfind := good_find (cP x) hox.1 hI.gd.good
      have HGD := Lib.hid hgdp
      have e1 : (⟨(cP x).k.toArray⟩ : ByteArray) = sk := hsk
      have e2' : (⟨(cP x).d.toArray⟩ : ByteArray) = sv := hsv
      rw [e1, e2'] at HPU
      obtain ⟨tp, htp⟩ : ∃ t', putTop (cP x) t = t' := ⟨_, rfl⟩
      rw [htp] at HPU HGD hfind
      obtain ⟨p, ins, hps⟩ := putE_pos (cP x).k (cP x).d (entT t) (good_rise hI.gd.good)
      rw [← HGD.out.2.1] at hps
      have HSKL : Hid (sk.toList = (cP x).k) := Lib.hid hskl
      have HSK2 := Lib.hid e1
      have HSV2 := Lib.hid e2'
      have HFI := Lib.hid hfind
      unfold ndV at HPU
      simp only at HPU
      obtain ⟨m1, hm1⟩ : ∃ m, (entT t).length = m := ⟨_, rfl⟩
      obtain ⟨m2, hm2⟩ : ∃ m, (entT tp).length = m := ⟨_, rfl⟩
      have HM1 := Lib.hid hm1
      have HM2 := Lib.hid hm2
      have hm1b : m1 ≤ 80 := by have := hI.gd.few; omega
      have hm2b : m2 ≤ 81 := by have := HGD.out.1.few; omega
      have HLX : Hid (∀ w6 : World, Below wr.heap.size wr w6 → w6.cell? ⟨gl, offl + k * 3, none⟩ = some (.string sk) ∧ w6.cell? ⟨gl, offl + k * 3 + 1, none⟩ = some (.int .u8 (bb : Int)) ∧ w6.cell? ⟨gl, offl + k * 3 + 2, none⟩ = some (.int .i64 zz)) := Lib.hid (fun w6 hb => ⟨cell_below a0 hb, cell_below a1 hb, cell_below a2 hb⟩)
      have HC5 : Hid (∀ w6 : World, Below wr.heap.size wr w6 → w6.cell? ⟨P5, 0, none⟩ = some (.int .i64 p1) ∧ w6.cell? ⟨P5, 1, none⟩ = some (.bool lf1) ∧ w6.cell? ⟨P5, 2, none⟩ = some (.slice kA1 kn1 kc1) ∧ w6.cell? ⟨P5, 3, none⟩ = some (.slice vA1 vn1 vc1) ∧ w6.cell? ⟨P5, 4, none⟩ = some (.slice dA1 dn1 dc1)) := Lib.hid (fun w6 hb => by
        have z := HX5.out.below hb HX5.out.lt
        exact ⟨z.cell 0, z.cell 1, z.cell 2, z.cell 3, z.cell 4⟩)
      have HPL := Lib.hid (fun (w' : World) (hb : Below wr.heap.size wr w') => hI.gd.plain _ _ w' (hI.rt.stay hb))
      have HEN := Lib.hid (fun (w' : World) (F : Nat → Prop) (v : NV) (hr : RepN F w' v t) => r15Ents_row t F v w' hr (by omega) m1 hm1)
      unfold ndV at HPL
      unfold nvV at HEN
      simp only at HPL
      have i0 : (0 : Int) ≤ (k : Int) := by omega
      have i1 : (k : Int) < (n : Int) := by omega
      have HPS := Lib.hid hps
      obtain ⟨x0, x1, x2, x3, x4⟩ := HC5.out wr (Below.refl _ wr)
      clear hx hox a0 a1 a2 hsk hsv hbb hzz hgdp e1 e2' htp hI hfind hskl hps hm1 hm2
      go_wp2_with (first
        | (go_at_call 21; (with_reducible refine (HPL.out _ (Below.refl _ _)).mono ?_); rintro e1 w1 ⟨⟨g0, g1, gA, gn, gc⟩, rfl, r1, b1⟩; unfold nvV; simp only; have R1 := Lib.hid r1; have Q1 := Lib.hid b1; clear r1 b1)
        | (go_at_call 25; (with_reducible refine (HEN.out _ _ ⟨g0, g1, gA, gn, gc⟩ R1.out).mono ?_); rintro e2 V ⟨A1, c1, rfl, r2, b2⟩; have R2 := Lib.hid r2; have Q2 := Lib.hid (below_step Q1.out b2); clear r2 b2))
      have hX5V := HX5.out.below Q2.out HX5.out.lt
      have HX5V := Lib.hid hX5V
      have HLXV : Hid (∀ w6 : World, Below V.heap.size V w6 → w6.cell? ⟨gl, offl + k * 3, none⟩ = some (.string sk) ∧ w6.cell? ⟨gl, offl + k * 3 + 1, none⟩ = some (.int .u8 (bb : Int)) ∧ w6.cell? ⟨gl, offl + k * 3 + 2, none⟩ = some (.int .i64 zz)) := Lib.hid (fun w6 hb => HLX.out w6 (below_step Q2.out hb))
      have HC5V : Hid (∀ w6 : World, Below V.heap.size V w6 → w6.cell? ⟨P5, 0, none⟩ = some (.int .i64 p1) ∧ w6.cell? ⟨P5, 1, none⟩ = some (.bool lf1) ∧ w6.cell? ⟨P5, 2, none⟩ = some (.slice kA1 kn1 kc1) ∧ w6.cell? ⟨P5, 3, none⟩ = some (.slice vA1 vn1 vc1) ∧ w6.cell? ⟨P5, 4, none⟩ = some (.slice dA1 dn1 dc1)) := Lib.hid (fun w6 hb => HC5.out w6 (below_step Q2.out hb))
      have HPUV := Lib.hid (fun (w' : World) (hb : Below V.heap.size V w') => HPU.out w' (below_step Q2.out hb))
      have HPLV := Lib.hid (fun (w' : World) (hb : Below V.heap.size V w') => HPL.out w' (below_step Q2.out hb))
      have HBV : Hid (Below W.heap.size W V) := Lib.hid (below_step HI.out.bl Q2.out)
      clear HLX HC5 HPU HPL hX5V x0 x1 x2 x3 x4
      have HLX := HLXV
      have HC5 := HC5V
      have HPU := HPUV
      have HPL := HPLV
      clear HLXV HC5V HPUV HPLV
      rename_i K hK
      refine wp_named (fun a0 ha0 => ?_)
      obtain ⟨M, hM⟩ : ∃ M : Act → World → Prop, M = fun a w' => ∃ P8 z3, PutY V w' P8 z3 tp ∧ a = (((((((((((((a0.put (some 33) (.agg #[.int .i64 p1, .bool lf1, .slice kA1 kn1 kc1, .slice vA1 vn1 vc1, .slice dA1 dn1 dc1])).put (some 34) (.slice (some ⟨gl, offl, none⟩) n c)).put (some 35) (.int .i64 (k : Int))).put (some 36) (.pointer (some ⟨gl, offl + k * 3, none⟩))).put (some 37) (.pointer (some ⟨gl, offl + k * 3, none⟩))).put (some 38) (.string sk)).put (some 39) (.slice (some ⟨gl, offl, none⟩) n c)).put (some 40) (.int .i64 (k : Int))).put (some 41) (.pointer (some ⟨gl, offl + k * 3, none⟩))).put (some 42) (.agg #[.string sk, .int .u8 (bb : Int), .int .i64 zz])).put (some 43) (.string sv)).put (some 44) (.agg #[.int .i64 z3.p, .bool z3.lf, .slice z3.kA z3.kn z3.kc, .slice z3.vA z3.vn z3.vc, .slice z3.dA z3.dn z3.dc])).put (some 8) (.pointer (some ⟨P8, 0, none⟩))) := ⟨_, rfl⟩
      have HMI : Hid (∀ P8 z3 w', PutY V w' P8 z3 tp → M (((((((((((((a0.put (some 33) (.agg #[.int .i64 p1, .bool lf1, .slice kA1 kn1 kc1, .slice vA1 vn1 vc1, .slice dA1 dn1 dc1])).put (some 34) (.slice (some ⟨gl, offl, none⟩) n c)).put (some 35) (.int .i64 (k : Int))).put (some 36) (.pointer (some ⟨gl, offl + k * 3, none⟩))).put (some 37) (.pointer (some ⟨gl, offl + k * 3, none⟩))).put (some 38) (.string sk)).put (some 39) (.slice (some ⟨gl, offl, none⟩) n c)).put (some 40) (.int .i64 (k : Int))).put (some 41) (.pointer (some ⟨gl, offl + k * 3, none⟩))).put (some 42) (.agg #[.string sk, .int .u8 (bb : Int), .int .i64 zz])).put (some 43) (.string sv)).put (some 44) (.agg #[.int .i64 z3.p, .bool z3.lf, .slice z3.kA z3.kn z3.kc, .slice z3.vA z3.vn z3.vc, .slice z3.dA z3.dn z3.dc])).put (some 8) (.pointer (some ⟨P8, 0, none⟩))) w') := Lib.hid (fun P8 z3 w' x1 => by rw [hM]; exact ⟨P8, z3, x1, rfl⟩)
      refine wp_held (fun w' : World => Below V.heap.size V w') M hmx ?_ ?_
      · clear hM hK
        subst ha0
        have T0 : Below V.heap.size V V.drew := (Below.refl _ _).drew
        obtain ⟨W0, hW0⟩ : ∃ W, V.drew = W := ⟨_, rfl⟩
        rw [hW0] at T0 ⊢
        have HVS : Hid (W0.heap.size = V.heap.size) := Lib.hid (by rw [← hW0]; rfl)
        clear hW0
        refine wpAnyH_take (i := 0) (v := .agg #[.int .i64 p1, .bool lf1, .slice kA1 kn1 kc1, .slice vA1 vn1 vc1, .slice dA1 dn1 dc1]) (lit rfl) (by kernel_rfl) (by kernel_rfl) (by kernel_rfl) (fun _ _ _ h => h) (Or.inl ⟨by rfl, ?_⟩) T0 ?_
        · rintro w6 hb6
          obtain ⟨y60, y61, y62, y63, y64⟩ := HC5.out w6 hb6
          go_simp
        simp only [Act.put, List.setIfInBounds_toArray, List.set_cons_zero, List.set_cons_succ]
        refine wpAnyH_take (i := 1) (v := .slice (some ⟨gl, offl, none⟩) n c) (lit rfl) (by kernel_rfl) (by kernel_rfl) (by kernel_rfl) (fun _ _ _ h => h) (Or.inl ⟨by rfl, ?_⟩) T0 ?_
        · rintro w6 hb6
          go_simp
        simp only [Act.put, List.setIfInBounds_toArray, List.set_cons_zero, List.set_cons_succ]
        refine wpAnyH_take (i := 2) (v := .int .i64 (k : Int)) (lit rfl) (by kernel_rfl) (by kernel_rfl) (by kernel_rfl) (fun _ _ _ h => h) (Or.inl ⟨by rfl, ?_⟩) T0 ?_
        · rintro w6 hb6
          go_simp
        simp only [Act.put, List.setIfInBounds_toArray, List.set_cons_zero, List.set_cons_succ]
        refine wpAnyH_take (i := 3) (v := .pointer (some ⟨gl, offl + k * 3, none⟩)) (lit rfl) (by kernel_rfl) (by kernel_rfl) (by kernel_rfl) (fun _ _ _ h => h) (Or.inl ⟨by rfl, ?_⟩) T0 ?_
        · rintro w6 hb6
          go_simp
        simp only [Act.put, List.setIfInBounds_toArray, List.set_cons_zero, List.set_cons_succ]
        refine wpAnyH_take (i := 4) (v := .pointer (some ⟨gl, offl + k * 3, none⟩)) (lit rfl) (by kernel_rfl) (by kernel_rfl) (by kernel_rfl) (fun _ _ _ h => h) (Or.inl ⟨by rfl, ?_⟩) T0 ?_
        · rintro w6 hb6
          go_simp
        simp only [Act.put, List.setIfInBounds_toArray, List.set_cons_zero, List.set_cons_succ]
        refine wpAnyH_take (i := 5) (v := .string sk) (lit rfl) (by kernel_rfl) (by kernel_rfl) (by kernel_rfl) (fun _ _ _ h => h) (Or.inl ⟨by rfl, ?_⟩) T0 ?_
        · rintro w6 hb6
          obtain ⟨y60, y61, y62⟩ := HLX.out w6 hb6
          go_simp
        simp only [Act.put, List.setIfInBounds_toArray, List.set_cons_zero, List.set_cons_succ]
        refine wpAnyH_take (i := 6) (v := .slice (some ⟨gl, offl, none⟩) n c) (lit rfl) (by kernel_rfl) (by kernel_rfl) (by kernel_rfl) (fun _ _ _ h => h) (Or.inl ⟨by rfl, ?_⟩) T0 ?_
        · rintro w6 hb6
          go_simp
        simp only [Act.put, List.setIfInBounds_toArray, List.set_cons_zero, List.set_cons_succ]
        refine wpAnyH_take (i := 7) (v := .int .i64 (k : Int)) (lit rfl) (by kernel_rfl) (by kernel_rfl) (by kernel_rfl) (fun _ _ _ h => h) (Or.inl ⟨by rfl, ?_⟩) T0 ?_
        · rintro w6 hb6
          go_simp
        simp only [Act.put, List.setIfInBounds_toArray, List.set_cons_zero, List.set_cons_succ]
        refine wpAnyH_take (i := 8) (v := .pointer (some ⟨gl, offl + k * 3, none⟩)) (lit rfl) (by kernel_rfl) (by kernel_rfl) (by kernel_rfl) (fun _ _ _ h => h) (Or.inl ⟨by rfl, ?_⟩) T0 ?_
        · rintro w6 hb6
          go_simp
        simp only [Act.put, List.setIfInBounds_toArray, List.set_cons_zero, List.set_cons_succ]
        refine wpAnyH_take (i := 9) (v := .agg #[.string sk, .int .u8 (bb : Int), .int .i64 zz]) (lit rfl) (by kernel_rfl) (by kernel_rfl) (by kernel_rfl) (fun _ _ _ h => h) (Or.inl ⟨by rfl, ?_⟩) T0 ?_
        · rintro w6 hb6
          obtain ⟨y60, y61, y62⟩ := HLX.out w6 hb6
          go_simp
        simp only [Act.put, List.setIfInBounds_toArray, List.set_cons_zero, List.set_cons_succ]
        refine wpAnyH_ready (rs := [10, 12]) (by kernel_rfl) (by simp) ?_
        refine (AllReadyH.cons (lit rfl) (fun K5 hK5 => ?_) (AllReadyH.cons (lit rfl) (fun K5 hK5 => ?_) AllReadyH.nil))
        · refine step_open rfl ?_
          go_simp
          go_at_call 18
          (with_reducible refine (HVA.out _).mono ?_)
          rintro e1 W1 ⟨rfl, b1⟩
          have T1 := below_step T0 b1
          go_simp
          refine hK5.out _ _ T1 (fun _ => ?_)
          clear hK5 K5
          try simp only [Act.put, List.setIfInBounds_toArray, List.set_cons_zero, List.set_cons_succ]
          refine wpAnyH_ready (rs := [11, 12]) (by kernel_rfl) (by simp) ?_
          refine (AllReadyH.cons (lit rfl) (fun K5 hK5 => ?_) (AllReadyH.cons (lit rfl) (fun K5 hK5 => ?_) AllReadyH.nil))
          · refine step_open rfl ?_
            go_simp
            go_at_call 17
            (with_reducible refine (HPU.out _ T1).mono ?_)
            rintro e2 W2 ⟨⟨p3, lf3, kA3, kn3, kc3, vA3, vn3, vc3, dA3, dn3, dc3⟩, rfl, r3, b2⟩
            unfold ndV
            simp only
            have T2 := below_step T1 b2
            have R8 := RepT.old r3
            go_simp
            refine hK5.out _ _ T2 (fun _ => ?_)
            clear hK5 K5
            try simp only [Act.put, List.setIfInBounds_toArray, List.set_cons_zero, List.set_cons_succ]
            refine wpAnyH_ready (rs := [12]) (by kernel_rfl) (by simp) ?_
            refine (AllReadyH.cons (lit rfl) (fun K5 hK5 => ?_) AllReadyH.nil)
            refine step_open rfl ?_
            go_simp
            obtain ⟨W3, hW3⟩ : ∃ x, W2.alloc (.cells #[.int .i64 0, .bool false, .slice none 0 0, .slice none 0 0, .slice none 0 0] 29) = x := ⟨_, rfl⟩
            have b3 : Below W2.heap.size W2 W3 := hW3 ▸ (Below.refl _ W2).alloc (Nat.le_refl _) _
            have HZ3 : W3.heap.size = W2.heap.size + 1 := by rw [← hW3]; simp
            have B8 : Has W3 W2.heap.size 29 #[.int .i64 0, .bool false, .slice none 0 0, .slice none 0 0, .slice none 0 0] := hW3 ▸ Has.made W2 29 _
            rw [hW3]
            obtain ⟨P8, hP8⟩ : ∃ P, W2.heap.size = P := ⟨_, rfl⟩
            try rw [hP8]
            rw [hP8] at B8
            have HP8 : Hid (V.heap.size ≤ P8 ∧ P8 < W3.heap.size ∧ P8 = W2.heap.size) := Lib.hid ⟨by have h1 := T2.size; omega, by omega, hP8.symm⟩
            have T3 := below_step T2 b3
            have R8 : RepT (fun q => V.heap.size ≤ q ∧ q ≠ P8) W3 ⟨p3, lf3, kA3, kn3, kc3, vA3, vn3, vc3, dA3, dn3, dc3⟩ tp := RepT.stay (RepT.mono R8 (fun q hq => ⟨by have h1 := HVS.out; have h2 := T1.size; have h3 := hq.1; omega, by have h1 := HP8.out; have h3 := hq.2; omega⟩)) b3
            clear hP8 hW3 HZ3
            go_simp
            refine hK5.out _ _ T3 (fun _ => ?_)
            clear hK5 K5
            try simp only [Act.put, List.setIfInBounds_toArray, List.set_cons_zero, List.set_cons_succ]
            refine wpAnyH_ready (rs := [13]) (by kernel_rfl) (by simp) ?_
            refine (AllReadyH.cons (lit rfl) (fun K5 hK5 => ?_) AllReadyH.nil)
            refine step_open rfl ?_
            go_simp
            have g8 : V.heap.size ≤ P8 := HP8.out.1
            have q0 := B8.cell 0
            have q1 := B8.cell 1
            have q2 := B8.cell 2
            have q3 := B8.cell 3
            have q4 := B8.cell 4
            have f0 := B8.free 0
            have f1 := B8.free 1
            have f2 := B8.free 2
            have f3 := B8.free 3
            have f4 := B8.free 4
            have T4 := below_st5 T3 g8 (.int .i64 p3) (.bool lf3) (.slice kA3 kn3 kc3) (.slice vA3 vn3 vc3) (.slice dA3 dn3 dc3)
            have B9 := B8.st5 (.int .i64 p3) (.bool lf3) (.slice kA3 kn3 kc3) (.slice vA3 vn3 vc3) (.slice dA3 dn3 dc3)
            have R9 := RepT.move (G := fun q => V.heap.size ≤ q ∧ q ≠ P8) (w' := st5 W3 P8 (.int .i64 p3) (.bool lf3) (.slice kA3 kn3 kc3) (.slice vA3 vn3 vc3) (.slice dA3 dn3 dc3)) (fun q hq hl => ⟨hq, heap_st5 W3 P8 _ _ _ _ _ q hq.2⟩) R8
            unfold st5 at T4 B9 R9
            go_simp
            refine hK5.out _ _ T4 (fun _ => ?_)
            clear hK5 K5
            try simp only [Act.put, List.setIfInBounds_toArray, List.set_cons_zero, List.set_cons_succ]
            refine wpAnyH_done (by kernel_rfl) ?_ _
            have hfin := HMI.out P8 ⟨p3, lf3, kA3, kn3, kc3, vA3, vn3, vc3, dA3, dn3, dc3⟩ _ ⟨T4, B9, g8, R9⟩
            simp only [Act.put, List.setIfInBounds_toArray, List.set_cons_zero, List.set_cons_succ] at hfin
            exact hfin
          · refine step_open rfl ?_
            go_simp
            obtain ⟨W2, hW2⟩ : ∃ x, W1.alloc (.cells #[.int .i64 0, .bool false, .slice none 0 0, .slice none 0 0, .slice none 0 0] 29) = x := ⟨_, rfl⟩
            have b2 : Below W1.heap.size W1 W2 := hW2 ▸ (Below.refl _ W1).alloc (Nat.le_refl _) _
            have HZ2 : W2.heap.size = W1.heap.size + 1 := by rw [← hW2]; simp
            have B8 : Has W2 W1.heap.size 29 #[.int .i64 0, .bool false, .slice none 0 0, .slice none 0 0, .slice none 0 0] := hW2 ▸ Has.made W1 29 _
            rw [hW2]
            obtain ⟨P8, hP8⟩ : ∃ P, W1.heap.size = P := ⟨_, rfl⟩
            try rw [hP8]
            rw [hP8] at B8
            have HP8 : Hid (V.heap.size ≤ P8 ∧ P8 < W2.heap.size ∧ P8 = W1.heap.size) := Lib.hid ⟨by have h1 := T1.size; omega, by omega, hP8.symm⟩
            have T2 := below_step T1 b2
            clear hP8 hW2 HZ2
            go_simp
            refine hK5.out _ _ T2 (fun _ => ?_)
            clear hK5 K5
            try simp only [Act.put, List.setIfInBounds_toArray, List.set_cons_zero, List.set_cons_succ]
            refine wpAnyH_ready (rs := [11]) (by kernel_rfl) (by simp) ?_
            refine (AllReadyH.cons (lit rfl) (fun K5 hK5 => ?_) AllReadyH.nil)
            refine step_open rfl ?_
            go_simp
            go_at_call 17
            (with_reducible refine (HPU.out _ T2).mono ?_)
            rintro e3 W3 ⟨⟨p3, lf3, kA3, kn3, kc3, vA3, vn3, vc3, dA3, dn3, dc3⟩, rfl, r3, b3⟩
            unfold ndV
            simp only
            have T3 := below_step T2 b3
            have B8 := B8.below b3 B8.lt
            have R8 : RepT (fun q => V.heap.size ≤ q ∧ q ≠ P8) W3 ⟨p3, lf3, kA3, kn3, kc3, vA3, vn3, vc3, dA3, dn3, dc3⟩ tp := RepT.mono r3 (fun q hq => ⟨by have h0 : W2.heap.size ≤ q := hq; have h1 := HVS.out; have h2 := T2.size; omega, by have h0 : W2.heap.size ≤ q := hq; obtain ⟨z1, z2, z3⟩ := HP8.out; have h5 := b2.size; try have h6 := b1.size; omega⟩)
            go_simp
            refine hK5.out _ _ T3 (fun _ => ?_)
            clear hK5 K5
            try simp only [Act.put, List.setIfInBounds_toArray, List.set_cons_zero, List.set_cons_succ]
            refine wpAnyH_ready (rs := [13]) (by kernel_rfl) (by simp) ?_
            refine (AllReadyH.cons (lit rfl) (fun K5 hK5 => ?_) AllReadyH.nil)
            refine step_open rfl ?_
            go_simp
            have g8 : V.heap.size ≤ P8 := HP8.out.1
            have q0 := B8.cell 0
            have q1 := B8.cell 1
            have q2 := B8.cell 2
            have q3 := B8.cell 3
            have q4 := B8.cell 4
            have f0 := B8.free 0
            have f1 := B8.free 1
            have f2 := B8.free 2
            have f3 := B8.free 3
            have f4 := B8.free 4
            have T4 := below_st5 T3 g8 (.int .i64 p3) (.bool lf3) (.slice kA3 kn3 kc3) (.slice vA3 vn3 vc3) (.slice dA3 dn3 dc3)
            have B9 := B8.st5 (.int .i64 p3) (.bool lf3) (.slice kA3 kn3 kc3) (.slice vA3 vn3 vc3) (.slice dA3 dn3 dc3)
            have R9 := RepT.move (G := fun q => V.heap.size ≤ q ∧ q ≠ P8) (w' := st5 W3 P8 (.int .i64 p3) (.bool lf3) (.slice kA3 kn3 kc3) (.slice vA3 vn3 vc3) (.slice dA3 dn3 dc3)) (fun q hq hl => ⟨hq, heap_st5 W3 P8 _ _ _ _ _ q hq.2⟩) R8
            unfold st5 at T4 B9 R9
            go_simp
            refine hK5.out _ _ T4 (fun _ => ?_)
            clear hK5 K5
            try simp only [Act.put, List.setIfInBounds_toArray, List.set_cons_zero, List.set_cons_succ]
            refine wpAnyH_done (by kernel_rfl) ?_ _
            have hfin := HMI.out P8 ⟨p3, lf3, kA3, kn3, kc3, vA3, vn3, vc3, dA3, dn3, dc3⟩ _ ⟨T4, B9, g8, R9⟩
            simp only [Act.put, List.setIfInBounds_toArray, List.set_cons_zero, List.set_cons_succ] at hfin
            exact hfin
        · refine step_open rfl ?_
          go_simp
          obtain ⟨W1, hW1⟩ : ∃ x, W0.alloc (.cells #[.int .i64 0, .bool false, .slice none 0 0, .slice none 0 0, .slice none 0 0] 29) = x := ⟨_, rfl⟩
          have b1 : Below W0.heap.size W0 W1 := hW1 ▸ (Below.refl _ W0).alloc (Nat.le_refl _) _
          have HZ1 : W1.heap.size = W0.heap.size + 1 := by rw [← hW1]; simp
          have B8 : Has W1 W0.heap.size 29 #[.int .i64 0, .bool false, .slice none 0 0, .slice none 0 0, .slice none 0 0] := hW1 ▸ Has.made W0 29 _
          rw [hW1]
          obtain ⟨P8, hP8⟩ : ∃ P, W0.heap.size = P := ⟨_, rfl⟩
          try rw [hP8]
          rw [hP8] at B8
          have HP8 : Hid (V.heap.size ≤ P8 ∧ P8 < W1.heap.size ∧ P8 = W0.heap.size) := Lib.hid ⟨by have h1 := T0.size; omega, by omega, hP8.symm⟩
          have T1 := below_step T0 b1
          clear hP8 hW1 HZ1
          go_simp
          refine hK5.out _ _ T1 (fun _ => ?_)
          clear hK5 K5
          try simp only [Act.put, List.setIfInBounds_toArray, List.set_cons_zero, List.set_cons_succ]
          refine wpAnyH_ready (rs := [10]) (by kernel_rfl) (by simp) ?_
          refine (AllReadyH.cons (lit rfl) (fun K5 hK5 => ?_) AllReadyH.nil)
          refine step_open rfl ?_
          go_simp
          go_at_call 18
          (with_reducible refine (HVA.out _).mono ?_)
          rintro e2 W2 ⟨rfl, b2⟩
          have T2 := below_step T1 b2
          have B8 := B8.below b2 B8.lt
          go_simp
          refine hK5.out _ _ T2 (fun _ => ?_)
          clear hK5 K5
          try simp only [Act.put, List.setIfInBounds_toArray, List.set_cons_zero, List.set_cons_succ]
          refine wpAnyH_ready (rs := [11]) (by kernel_rfl) (by simp) ?_
          refine (AllReadyH.cons (lit rfl) (fun K5 hK5 => ?_) AllReadyH.nil)
          refine step_open rfl ?_
          go_simp
          go_at_call 17
          (with_reducible refine (HPU.out _ T2).mono ?_)
          rintro e3 W3 ⟨⟨p3, lf3, kA3, kn3, kc3, vA3, vn3, vc3, dA3, dn3, dc3⟩, rfl, r3, b3⟩
          unfold ndV
          simp only
          have T3 := below_step T2 b3
          have B8 := B8.below b3 B8.lt
          have R8 : RepT (fun q => V.heap.size ≤ q ∧ q ≠ P8) W3 ⟨p3, lf3, kA3, kn3, kc3, vA3, vn3, vc3, dA3, dn3, dc3⟩ tp := RepT.mono r3 (fun q hq => ⟨by have h0 : W2.heap.size ≤ q := hq; have h1 := HVS.out; have h2 := T2.size; omega, by have h0 : W2.heap.size ≤ q := hq; obtain ⟨z1, z2, z3⟩ := HP8.out; have h5 := b2.size; try have h6 := b1.size; omega⟩)
          go_simp
          refine hK5.out _ _ T3 (fun _ => ?_)
          clear hK5 K5
          try simp only [Act.put, List.setIfInBounds_toArray, List.set_cons_zero, List.set_cons_succ]
          refine wpAnyH_ready (rs := [13]) (by kernel_rfl) (by simp) ?_
          refine (AllReadyH.cons (lit rfl) (fun K5 hK5 => ?_) AllReadyH.nil)
          refine step_open rfl ?_
          go_simp
          have g8 : V.heap.size ≤ P8 := HP8.out.1
          have q0 := B8.cell 0
          have q1 := B8.cell 1
          have q2 := B8.cell 2
          have q3 := B8.cell 3
          have q4 := B8.cell 4
          have f0 := B8.free 0
          have f1 := B8.free 1
          have f2 := B8.free 2
          have f3 := B8.free 3
          have f4 := B8.free 4
          have T4 := below_st5 T3 g8 (.int .i64 p3) (.bool lf3) (.slice kA3 kn3 kc3) (.slice vA3 vn3 vc3) (.slice dA3 dn3 dc3)
          have B9 := B8.st5 (.int .i64 p3) (.bool lf3) (.slice kA3 kn3 kc3) (.slice vA3 vn3 vc3) (.slice dA3 dn3 dc3)
          have R9 := RepT.move (G := fun q => V.heap.size ≤ q ∧ q ≠ P8) (w' := st5 W3 P8 (.int .i64 p3) (.bool lf3) (.slice kA3 kn3 kc3) (.slice vA3 vn3 vc3) (.slice dA3 dn3 dc3)) (fun q hq hl => ⟨hq, heap_st5 W3 P8 _ _ _ _ _ q hq.2⟩) R8
          unfold st5 at T4 B9 R9
          go_simp
          refine hK5.out _ _ T4 (fun _ => ?_)
          clear hK5 K5
          try simp only [Act.put, List.setIfInBounds_toArray, List.set_cons_zero, List.set_cons_succ]
          refine wpAnyH_done (by kernel_rfl) ?_ _
          have hfin := HMI.out P8 ⟨p3, lf3, kA3, kn3, kc3, vA3, vn3, vc3, dA3, dn3, dc3⟩ _ ⟨T4, B9, g8, R9⟩
          simp only [Act.put, List.setIfInBounds_toArray, List.set_cons_zero, List.set_cons_succ] at hfin
          exact hfin
      · intro a w' hMa
        rw [hM] at hMa
        obtain ⟨P8, ⟨p3, lf3, kA3, kn3, kc3, vA3, vn3, vc3, dA3, dn3, dc3⟩, hPY, rfl⟩ := hMa
        clear HMI hM
        refine hK _ _ ?_
        clear hK
        subst ha0
        simp only [Act.put, List.setIfInBounds_toArray, List.set_cons_zero, List.set_cons_succ]
        have HPY := Lib.hid hPY
        have HPL2 := Lib.hid (fun (w1 : World) (hb : Below w'.heap.size w' w1) => HGD.out.1.plain _ _ w1 (hPY.rep.stay hb))
        have HEN2 := Lib.hid (fun (w' : World) (F : Nat → Prop) (v : NV) (hr : RepN F w' v tp) => r15Ents_row tp F v w' hr (by have := HM2.out; omega) m2 HM2.out)
        unfold ndV at HPL2
        unfold nvV at HEN2
        simp only at HPL2
        have x0 := hPY.b.cell 0
        have x1 := hPY.b.cell 1
        have x2 := hPY.b.cell 2
        have x3 := hPY.b.cell 3
        have x4 := hPY.b.cell 4
        clear hPY
        go_wp2_with (first
          | (go_at_call 21; (with_reducible refine (HPL2.out _ (Below.refl _ _)).mono ?_); rintro e3 w3 ⟨⟨h0, h1, hA, hn, hc⟩, rfl, r3, b3⟩; unfold nvV; simp only; have R3 := Lib.hid r3; have Q3 := Lib.hid b3; clear r3 b3)
          | (go_at_call 25; (with_reducible refine (HEN2.out _ _ ⟨h0, h1, hA, hn, hc⟩ R3.out).mono ?_); rintro e4 w4 ⟨A2, c2, rfl, r4, b4⟩; have R4 := Lib.hid r4; have Q4 := Lib.hid (below_step Q3.out b4); clear r4 b4))
        clear x0 x1 x2 x3 x4
        have HPY4 := Lib.hid (HPY.out.below Q4.out)
        have HC8 : Hid (∀ w6 : World, Below w4.heap.size w4 w6 → w6.cell? ⟨P8, 0, none⟩ = some (.int .i64 p3) ∧ w6.cell? ⟨P8, 1, none⟩ = some (.bool lf3) ∧ w6.cell? ⟨P8, 2, none⟩ = some (.slice kA3 kn3 kc3) ∧ w6.cell? ⟨P8, 3, none⟩ = some (.slice vA3 vn3 vc3) ∧ w6.cell? ⟨P8, 4, none⟩ = some (.slice dA3 dn3 dc3)) := Lib.hid (fun w6 hb => by
          have z := HPY4.out.b.below hb HPY4.out.b.lt
          exact ⟨z.cell 0, z.cell 1, z.cell 2, z.cell 3, z.cell 4⟩)
        have HLY : Hid (∀ w6 : World, Below w4.heap.size w4 w6 → w6.cell? ⟨gl, offl + k * 3, none⟩ = some (.string sk) ∧ w6.cell? ⟨gl, offl + k * 3 + 1, none⟩ = some (.int .u8 (bb : Int)) ∧ w6.cell? ⟨gl, offl + k * 3 + 2, none⟩ = some (.int .i64 zz)) := Lib.hid (fun w6 hb => HLX.out w6 (below_step HPY4.out.bl hb))
        have HC5Y : Hid (∀ w6 : World, Below w4.heap.size w4 w6 → w6.cell? ⟨P5, 0, none⟩ = some (.int .i64 p1) ∧ w6.cell? ⟨P5, 1, none⟩ = some (.bool lf1) ∧ w6.cell? ⟨P5, 2, none⟩ = some (.slice kA1 kn1 kc1) ∧ w6.cell? ⟨P5, 3, none⟩ = some (.slice vA1 vn1 vc1) ∧ w6.cell? ⟨P5, 4, none⟩ = some (.slice dA1 dn1 dc1)) := Lib.hid (fun w6 hb => HC5.out w6 (below_step HPY4.out.bl hb))
        have HPLY := Lib.hid (fun (w1 : World) (hb : Below w4.heap.size w4 w1) => HPL.out w1 (below_step HPY4.out.bl hb))
        have HFD := Lib.hid (fun (w1 : World) (hb : Below w4.heap.size w4 w1) => HGD.out.1.find (cP x).k _ _ w1 (HPY4.out.rep.stay hb))
        rw [HFI.out] at HFD
        have HCK := Lib.hid (fun (w1 : World) (hb : Below w4.heap.size w4 w1) => HGD.out.1.check (by omega) _ _ w1 (HPY4.out.rep.stay hb))
        rw [good_check HGD.out.1.good HGD.out.2.2] at HCK
        have HFD : Hid (∀ w1 : World, Below w4.heap.size w4 w1 → Calls Try.prog 22 #[.agg #[.int .i64 p3, .bool lf3, .slice kA3 kn3 kc3, .slice vA3 vn3 vc3, .slice dA3 dn3 dc3], .string sk] w1 fun e w2 => e = .returned (.tuple #[.string sv, .bool true]) ∧ Below w1.heap.size w1 w2) := Lib.hid (fun w1 hb => by
          have h := HFD.out w1 hb
          unfold ndV tellF at h
          simp only [HSK2.out, HSV2.out] at h
          exact h)
        unfold ndV at HCK
        simp only at HCK
        have T4 : Below w4.heap.size w4 w4.drew := (Below.refl _ w4).drew
        go_wp2
        first | (rename_i K hK; refine wp_held (fun w6 : World => Below w4.heap.size w4 w6) K hmx ?_ (fun _ _ h => h)) | (rename_i K hK hz; refine wp_held (fun w6 : World => Below w4.heap.size w4 w6) K hmx ?_ (fun _ _ h => h))
        obtain ⟨Wd, hWd⟩ : ∃ X, w4.drew = X := ⟨_, rfl⟩
        rw [hWd] at T4 ⊢
        clear hWd
        refine wpAnyH_take (i := 0) (v := .agg #[.int .i64 p3, .bool lf3, .slice kA3 kn3 kc3, .slice vA3 vn3 vc3, .slice dA3 dn3 dc3]) (lit rfl) (by kernel_rfl) (by kernel_rfl) (by kernel_rfl) (fun _ _ _ h => h) (Or.inl ⟨by rfl, ?_⟩) T4 ?_
        · rintro w6 hb6
          obtain ⟨y60, y61, y62, y63, y64⟩ := HC8.out w6 hb6
          go_simp
        simp only [Act.put, List.setIfInBounds_toArray, List.set_cons_zero, List.set_cons_succ]
        refine wpAnyH_take (i := 1) (v := .slice (some ⟨gl, offl, none⟩) n c) (lit rfl) (by kernel_rfl) (by kernel_rfl) (by kernel_rfl) (fun _ _ _ h => h) (Or.inl ⟨by rfl, ?_⟩) T4 ?_
        · rintro w6 hb6
          go_simp
        simp only [Act.put, List.setIfInBounds_toArray, List.set_cons_zero, List.set_cons_succ]
        refine wpAnyH_take (i := 2) (v := .int .i64 (k : Int)) (lit rfl) (by kernel_rfl) (by kernel_rfl) (by kernel_rfl) (fun _ _ _ h => h) (Or.inl ⟨by rfl, ?_⟩) T4 ?_
        · rintro w6 hb6
          go_simp
        simp only [Act.put, List.setIfInBounds_toArray, List.set_cons_zero, List.set_cons_succ]
        refine wpAnyH_take (i := 3) (v := .pointer (some ⟨gl, offl + k * 3, none⟩)) (lit rfl) (by kernel_rfl) (by kernel_rfl) (by kernel_rfl) (fun _ _ _ h => h) (Or.inl ⟨by rfl, ?_⟩) T4 ?_
        · rintro w6 hb6
          go_simp
        simp only [Act.put, List.setIfInBounds_toArray, List.set_cons_zero, List.set_cons_succ]
        refine wpAnyH_take (i := 4) (v := .pointer (some ⟨gl, offl + k * 3, none⟩)) (lit rfl) (by kernel_rfl) (by kernel_rfl) (by kernel_rfl) (fun _ _ _ h => h) (Or.inl ⟨by rfl, ?_⟩) T4 ?_
        · rintro w6 hb6
          go_simp
        simp only [Act.put, List.setIfInBounds_toArray, List.set_cons_zero, List.set_cons_succ]
        refine wpAnyH_take (i := 5) (v := .string sk) (lit rfl) (by kernel_rfl) (by kernel_rfl) (by kernel_rfl) (fun _ _ _ h => h) (Or.inl ⟨by rfl, ?_⟩) T4 ?_
        · rintro w6 hb6
          obtain ⟨y60, y61, y62⟩ := HLY.out w6 hb6
          go_simp
        simp only [Act.put, List.setIfInBounds_toArray, List.set_cons_zero, List.set_cons_succ]
        refine wpAnyH_ready (rs := [6]) (by kernel_rfl) (by simp) ?_
        refine AllReadyH.cons (lit rfl) (fun K5 hK5 => ?_) AllReadyH.nil
        refine step_open rfl ?_
        go_simp
        go_at_call 22
        (with_reducible refine (HFD.out _ T4).mono ?_)
        rintro e5 w5 ⟨rfl, b5⟩
        have T5 : Below w4.heap.size w4 w5 := below_step T4 b5
        clear b5
        go_simp
        refine hK5.out _ _ T5 (fun _ => ?_)
        clear hK5 K5
        refine wpAnyH_take (i := 7) (v := .tuple #[.string sv, .bool true]) (lit rfl) (by kernel_rfl) (by kernel_rfl) (by kernel_rfl) (fun _ _ _ h => h) (Or.inl ⟨by rfl, ?_⟩) T5 ?_
        · rintro w6 hb6
          go_simp
        simp only [Act.put, List.setIfInBounds_toArray, List.set_cons_zero, List.set_cons_succ]
        refine wpAnyH_take (i := 8) (v := .string sv) (lit rfl) (by kernel_rfl) (by kernel_rfl) (by kernel_rfl) (fun _ _ _ h => h) (Or.inl ⟨by rfl, ?_⟩) T5 ?_
        · rintro w6 hb6
          go_simp
        simp only [Act.put, List.setIfInBounds_toArray, List.set_cons_zero, List.set_cons_succ]
        refine wpAnyH_take (i := 9) (v := .bool true) (lit rfl) (by kernel_rfl) (by kernel_rfl) (by kernel_rfl) (fun _ _ _ h => h) (Or.inl ⟨by rfl, ?_⟩) T5 ?_
        · rintro w6 hb6
          go_simp
        simp only [Act.put, List.setIfInBounds_toArray, List.set_cons_zero, List.set_cons_succ]
        refine wpAnyH_take (i := 10) (v := .string sv) (lit rfl) (by kernel_rfl) (by kernel_rfl) (by kernel_rfl) (fun _ _ _ h => h) (Or.inl ⟨by rfl, ?_⟩) T5 ?_
        · rintro w6 hb6
          go_simp
        simp only [Act.put, List.setIfInBounds_toArray, List.set_cons_zero, List.set_cons_succ]
        refine wpAnyH_take (i := 11) (v := .bool true) (lit rfl) (by kernel_rfl) (by kernel_rfl) (by kernel_rfl) (fun _ _ _ h => h) (Or.inl ⟨by rfl, ?_⟩) T5 ?_
        · rintro w6 hb6
          go_simp
        simp only [Act.put, List.setIfInBounds_toArray, List.set_cons_zero, List.set_cons_succ]
        refine wpAnyH_done (by kernel_rfl) ?_ _
        refine hK _ _ ?_
        have Q5 := Lib.hid T5
        obtain ⟨x0, x1, x2, x3, x4⟩ := HC8.out _ T5
        clear T4
        go_wp2_with (first
          | (go_at_call 24; (with_reducible refine (HCK.out _ Q5.out).mono ?_); rintro e6 w6 ⟨rfl, b6⟩; have Q6 := Lib.hid (below_step Q5.out b6); clear b6 x0 x1 x2 x3 x4; obtain ⟨y0, y1, y2⟩ := HLY.out _ Q6.out)
          | (go_at_call 18; (with_reducible refine (HVA.out _).mono ?_); rintro e7 w7 ⟨rfl, b7⟩; have Q7 := Lib.hid (below_step Q6.out b7); clear b7 y0 y1 y2; obtain ⟨x0, x1, x2, x3, x4⟩ := HC5Y.out _ Q7.out)
          | (go_at_call 21; (with_reducible refine (HPLY.out _ Q7.out).mono ?_); rintro e8 w8 ⟨⟨j0, j1, jA, jn, jc⟩, rfl, r8, b8⟩; unfold nvV; simp only; have R8 := Lib.hid r8; have Q8 := Lib.hid (below_step Q7.out b8); clear r8 b8 x0 x1 x2 x3 x4)
          | (go_at_call 25; (with_reducible refine (HEN.out _ _ ⟨j0, j1, jA, jn, jc⟩ R8.out).mono ?_); rintro e9 w9 ⟨A9, c9, rfl, r9, b9⟩; have Q9 := Lib.hid (below_step Q8.out b9); clear r9 b9))
        have HR1 : Hid (RwF (fun g => True) w9 A1 m1 c1 4 (flatC ((entT t).map ceE))) := Lib.hid (((R2.out.below (below_step HPY4.out.bl Q9.out))).mono (fun _ _ => trivial))
        have HR2 : Hid (RwF (fun g => True) w9 A2 m2 c2 4 (flatC ((entT tp).map ceE))) := Lib.hid ((R4.out.below Q9.out).mono (fun _ _ => trivial))
        have HLI : Hid (∀ w6 : World, Below w9.heap.size w9 w6 → w6.cell? ⟨gl, offl + k * 3, none⟩ = some (.string sk) ∧ w6.cell? ⟨gl, offl + k * 3 + 1, none⟩ = some (.int .u8 (bb : Int)) ∧ w6.cell? ⟨gl, offl + k * 3 + 2, none⟩ = some (.int .i64 zz)) := Lib.hid (fun w6 hb => HLY.out w6 (below_step Q9.out hb))
        have HPY9 := Lib.hid (HPY4.out.below Q9.out)
        clear HLY HLX HC5 HC5Y HPL HPLY HPL2 HEN HEN2 HFD HCK HPU HC8 HVA HAW HSM HEM R1 R2 R3 R4 Q1 Q3 Q4 Q5 Q6 Q7 Q8 Q9 R8 T5 HPY HPY4
        obtain ⟨e2, he2⟩ : ∃ e, entT tp = e := ⟨_, rfl⟩
        obtain ⟨e1, he1⟩ : ∃ e, entT t = e := ⟨_, rfl⟩
        rw [he2] at HR2 HPS HM2
        rw [he1] at HR1 HPS HM1
        clear he1 he2
        have hpm : p < m2 := by have h1 := HPS.out.lt; have h2 := HM2.out; omega
        have hm12 : m1 ≤ m2 ∧ m2 ≤ m1 + 1 := by have h1 := HPS.out.len; have h2 := HM2.out; have h3 := HM1.out; split at h1 <;> omega
        have HX3I : Hid (∀ (g2 o2 jj : Nat) (x3 : List UInt8 × List UInt8) (s3 : ByteArray), A2 = some ⟨g2, o2, none⟩ → e2[jj]? = some x3 → (⟨x3.1.toArray⟩ : ByteArray) = s3 → ∀ w6 : World, Below w9.heap.size w9 w6 → w6.cell? ⟨g2, o2 + jj * 4, none⟩ = some (.string s3) ∧ w6.cell? ⟨g2, o2 + jj * 4 + 1, none⟩ = some (.string ⟨x3.2.toArray⟩)) := Lib.hid (fun g2 o2 jj x3 s3 hA h1 h2 w6 hb6 => by
          obtain ⟨g', o', hgg, z0, z1⟩ := ents_cell (HR2.out.below hb6) h1
          have hAA := hA.symm.trans hgg
          injection hAA with hAA
          injection hAA with e1 e2 _
          subst e1 e2
          rw [h2] at z0
          exact ⟨z0, z1⟩)
        have HX1I : Hid (∀ (g1 o1 jj : Nat) (x3 : List UInt8 × List UInt8) (s3 d3 : ByteArray), A1 = some ⟨g1, o1, none⟩ → e1[jj]? = some x3 → (⟨x3.1.toArray⟩ : ByteArray) = s3 → (⟨x3.2.toArray⟩ : ByteArray) = d3 → ∀ w6 : World, Below w9.heap.size w9 w6 → w6.cell? ⟨g1, o1 + jj * 4, none⟩ = some (.string s3) ∧ w6.cell? ⟨g1, o1 + jj * 4 + 1, none⟩ = some (.string d3)) := Lib.hid (fun g1 o1 jj x3 s3 d3 hA h1 h2 h3 w6 hb6 => by
          obtain ⟨g', o', hgg, z0, z1⟩ := ents_cell (HR1.out.below hb6) h1
          have hAA := hA.symm.trans hgg
          injection hAA with hAA
          injection hAA with e1 e2 _
          subst e1 e2
          rw [h2] at z0
          rw [h3] at z1
          exact ⟨z0, z1⟩)
        go_loopw [12, 13] (fun kv jv wr => ∃ j : Nat, j ≤ m2 ∧ jv = .int .i64 (j : Int) ∧ kv = .int .i64 ((kofE ins p j : Nat) : Int) ∧ Below w9.heap.size w9 wr) (fun _ jv _ => m2 - (intOf jv).toNat)
        case atStart => exact ⟨0, Nat.zero_le _, rfl, by rw [kof_zero]; rfl, Below.refl _ _⟩
        case round =>
          obtain ⟨j, hj, rfl, rfl, hb⟩ := hrel
          obtain ⟨kk, hkk2⟩ : ∃ kk, kofE ins p j = kk := ⟨_, rfl⟩
          have HKK := Lib.hid hkk2
          rw [hkk2]
          by_cases hjl : j < m2
          · obtain ⟨x2, hx2⟩ : ∃ x, e2[j]? = some x := ⟨_, List.getElem?_eq_getElem (by have := HM2.out; omega)⟩
            obtain ⟨g2, o2, rfl, c20, c21⟩ := ents_cell (HR2.out.below hb) hx2
            have HX2E := Lib.hid hx2
            have j0 : (0 : Int) ≤ (j : Int) := by omega
            have j1 : (j : Int) < (m2 : Int) := by omega
            have kk0 : (0 : Int) ≤ (kk : Int) := by omega
            have hkj : kk ≤ j := by rw [← hkk2]; exact kof_le ins p j
            have U0 : Below w9.heap.size w9 wr.drew := hb.drew
            by_cases hjp : j = p
            · have hkx : (⟨x2.1.toArray⟩ : ByteArray) = sk := by rw [(HPS.out.own j x2 hx2).2 hjp]; exact HSK2.out
              have H2L : Hid (sk.toList = x2.1) := Lib.hid (by rw [HSKL.out]; exact ((HPS.out.own j x2 hx2).2 hjp).symm)
              have HX2 : Hid (∀ w6 : World, Below w9.heap.size w9 w6 → w6.cell? ⟨g2, o2 + j * 4, none⟩ = some (.string sk) ∧ w6.cell? ⟨g2, o2 + j * 4 + 1, none⟩ = some (.string ⟨x2.2.toArray⟩)) := Lib.hid (HX3I.out g2 o2 j x2 sk rfl hx2 hkx)
              have hkp : kk = p := by rw [← hkk2, hjp, kof_own]
              clear c20 c21 hkx hb hx2 hkk2
              by_cases hkm : kk < m1
              · obtain ⟨x1, hx1⟩ : ∃ x, e1[kk]? = some x := ⟨_, List.getElem?_eq_getElem (by have := HM1.out; omega)⟩
                obtain ⟨g1, o1, rfl, _, _⟩ := ents_cell HR1.out hx1
                obtain ⟨s1, hs1⟩ : ∃ s : ByteArray, (⟨x1.1.toArray⟩ : ByteArray) = s := ⟨_, rfl⟩
                have h1l : s1.toList = x1.1 := by rw [← hs1]; exact Go.ByteArray.toList_mk _
                obtain ⟨sm, hsame⟩ : ∃ b, (s1.toList == sk.toList) = b := ⟨_, rfl⟩
                have HX1 : Hid (∀ w6 : World, Below w9.heap.size w9 w6 → w6.cell? ⟨g1, o1 + kk * 4, none⟩ = some (.string s1) ∧ w6.cell? ⟨g1, o1 + kk * 4 + 1, none⟩ = some (.string ⟨x1.2.toArray⟩)) := Lib.hid (HX1I.out g1 o1 kk x1 s1 _ rfl hx1 hs1 rfl)
                have hsi : sm = !ins := by
                  rw [← hsame, h1l, HSKL.out]
                  cases hi : ins with
                  | false =>
                    obtain ⟨y, hy, hyk⟩ := HPS.out.same hi
                    rw [← hkp, hx1] at hy
                    injection hy with hy
                    rw [← hy] at hyk
                    rw [hyk]; simp
                  | true =>
                    have := HPS.out.new hi x1 (hkp ▸ hx1)
                    simpa using this
                have HNF : Hid (sm = false → kofE ins p (j + 1) = kk) := Lib.hid (fun h => by rw [hjp, kof_step_own, if_pos (by rw [h] at hsi; simpa using hsi), hkp])
                have HNT : Hid (sm = true → kofE ins p (j + 1) = kk + 1) := Lib.hid (fun h => by rw [hjp, kof_step_own, if_neg (by rw [h] at hsi; simpa using hsi), hkp])
                have kk1 : (kk : Int) < (m1 : Int) := by omega
                clear hx1 hs1 h1l hsi
                rcases Nat.eq_zero_or_pos j with hz | hz
                · have jp : ¬ (0 : Int) < (j : Int) := by omega
                  have HJP : Hid (j = 0) := Lib.hid hz
                  clear hz hjp hkp
                  go_wp2
                  first | (rename_i K hK; refine wp_held (fun w6 : World => Below w9.heap.size w9 w6) K hmx ?_ (fun _ _ h => h)) | (rename_i K hK hz; refine wp_held (fun w6 : World => Below w9.heap.size w9 w6) K hmx ?_ (fun _ _ h => h))
                  obtain ⟨Wd, hWd⟩ : ∃ X, wr.drew = X := ⟨_, rfl⟩
                  rw [hWd] at U0 ⊢
                  clear hWd
                  refine wpAnyH_take (i := 0) (v := .slice (some ⟨g2, o2, none⟩) m2 c2) (lit rfl) (by kernel_rfl) (by kernel_rfl) (by kernel_rfl) (fun _ _ _ h => h) (Or.inl ⟨by rfl, ?_⟩) U0 ?_
                  · rintro w6 hb6
                    go_simp
                  simp only [Act.put, List.setIfInBounds_toArray, List.set_cons_zero, List.set_cons_succ]
                  refine wpAnyH_take (i := 1) (v := .int .i64 (j : Int)) (lit rfl) (by kernel_rfl) (by kernel_rfl) (by kernel_rfl) (fun _ _ _ h => h) (Or.inl ⟨by rfl, ?_⟩) U0 ?_
                  · rintro w6 hb6
                    go_simp
                  simp only [Act.put, List.setIfInBounds_toArray, List.set_cons_zero, List.set_cons_succ]
                  refine wpAnyH_take (i := 2) (v := .pointer (some ⟨g2, o2 + j * 4, none⟩)) (lit rfl) (by kernel_rfl) (by kernel_rfl) (by kernel_rfl) (fun _ _ _ h => h) (Or.inl ⟨by rfl, ?_⟩) U0 ?_
                  · rintro w6 hb6
                    go_simp
                  simp only [Act.put, List.setIfInBounds_toArray, List.set_cons_zero, List.set_cons_succ]
                  refine wpAnyH_take (i := 3) (v := .pointer (some ⟨g2, o2 + j * 4, none⟩)) (lit rfl) (by kernel_rfl) (by kernel_rfl) (by kernel_rfl) (fun _ _ _ h => h) (Or.inl ⟨by rfl, ?_⟩) U0 ?_
                  · rintro w6 hb6
                    go_simp
                  simp only [Act.put, List.setIfInBounds_toArray, List.set_cons_zero, List.set_cons_succ]
                  refine wpAnyH_take (i := 4) (v := .string sk) (lit rfl) (by kernel_rfl) (by kernel_rfl) (by kernel_rfl) (fun _ _ _ h => h) (Or.inl ⟨by rfl, ?_⟩) U0 ?_
                  · rintro w6 hb6
                    obtain ⟨y60, y61⟩ := HX2.out w6 hb6
                    go_simp
                  simp only [Act.put, List.setIfInBounds_toArray, List.set_cons_zero, List.set_cons_succ]
                  refine wpAnyH_take (i := 5) (v := .slice (some ⟨gl, offl, none⟩) n c) (lit rfl) (by kernel_rfl) (by kernel_rfl) (by kernel_rfl) (fun _ _ _ h => h) (Or.inl ⟨by rfl, ?_⟩) U0 ?_
                  · rintro w6 hb6
                    go_simp
                  simp only [Act.put, List.setIfInBounds_toArray, List.set_cons_zero, List.set_cons_succ]
                  refine wpAnyH_take (i := 6) (v := .int .i64 (k : Int)) (lit rfl) (by kernel_rfl) (by kernel_rfl) (by kernel_rfl) (fun _ _ _ h => h) (Or.inl ⟨by rfl, ?_⟩) U0 ?_
                  · rintro w6 hb6
                    go_simp
                  simp only [Act.put, List.setIfInBounds_toArray, List.set_cons_zero, List.set_cons_succ]
                  refine wpAnyH_take (i := 7) (v := .pointer (some ⟨gl, offl + k * 3, none⟩)) (lit rfl) (by kernel_rfl) (by kernel_rfl) (by kernel_rfl) (fun _ _ _ h => h) (Or.inl ⟨by rfl, ?_⟩) U0 ?_
                  · rintro w6 hb6
                    go_simp
                  simp only [Act.put, List.setIfInBounds_toArray, List.set_cons_zero, List.set_cons_succ]
                  refine wpAnyH_take (i := 8) (v := .pointer (some ⟨gl, offl + k * 3, none⟩)) (lit rfl) (by kernel_rfl) (by kernel_rfl) (by kernel_rfl) (fun _ _ _ h => h) (Or.inl ⟨by rfl, ?_⟩) U0 ?_
                  · rintro w6 hb6
                    go_simp
                  simp only [Act.put, List.setIfInBounds_toArray, List.set_cons_zero, List.set_cons_succ]
                  refine wpAnyH_take (i := 9) (v := .string sk) (lit rfl) (by kernel_rfl) (by kernel_rfl) (by kernel_rfl) (fun _ _ _ h => h) (Or.inl ⟨by rfl, ?_⟩) U0 ?_
                  · rintro w6 hb6
                    obtain ⟨y60, y61, y62⟩ := HLI.out w6 hb6
                    go_simp
                  simp only [Act.put, List.setIfInBounds_toArray, List.set_cons_zero, List.set_cons_succ]
                  refine wpAnyH_take (i := 10) (v := .bool true) (lit rfl) (by kernel_rfl) (by kernel_rfl) (by kernel_rfl) (fun _ _ _ h => h) (Or.inl ⟨by rfl, ?_⟩) U0 ?_
                  · rintro w6 hb6
                    go_simp
                  simp only [Act.put, List.setIfInBounds_toArray, List.set_cons_zero, List.set_cons_succ]
                  refine wpAnyH_take (i := 11) (v := .bool true) (lit rfl) (by kernel_rfl) (by kernel_rfl) (by kernel_rfl) (fun _ _ _ h => h) (Or.inl ⟨by rfl, ?_⟩) U0 ?_
                  · rintro w6 hb6
                    go_simp
                  simp only [Act.put, List.setIfInBounds_toArray, List.set_cons_zero, List.set_cons_succ]
                  refine wpAnyH_done (by kernel_rfl) ?_ _
                  refine hK _ _ ?_
                  have U1 : Below w9.heap.size w9 Wd.drew := U0.drew
                  go_wp2
                  first | (rename_i K hK; refine wp_held (fun w6 : World => Below w9.heap.size w9 w6) K hmx ?_ (fun _ _ h => h)) | (rename_i K hK hz; refine wp_held (fun w6 : World => Below w9.heap.size w9 w6) K hmx ?_ (fun _ _ h => h))
                  obtain ⟨We, hWd⟩ : ∃ X, Wd.drew = X := ⟨_, rfl⟩
                  rw [hWd] at U1 ⊢
                  clear hWd
                  refine wpAnyH_take (i := 0) (v := .int .i64 (kk : Int)) (lit rfl) (by kernel_rfl) (by kernel_rfl) (by kernel_rfl) (fun _ _ _ h => h) (Or.inl ⟨by rfl, ?_⟩) U1 ?_
                  · rintro w6 hb6
                    go_simp
                  simp only [Act.put, List.setIfInBounds_toArray, List.set_cons_zero, List.set_cons_succ]
                  refine wpAnyH_take (i := 1) (v := .slice (some ⟨g1, o1, none⟩) m1 c1) (lit rfl) (by kernel_rfl) (by kernel_rfl) (by kernel_rfl) (fun _ _ _ h => h) (Or.inl ⟨by rfl, ?_⟩) U1 ?_
                  · rintro w6 hb6
                    go_simp
                  simp only [Act.put, List.setIfInBounds_toArray, List.set_cons_zero, List.set_cons_succ]
                  refine wpAnyH_take (i := 2) (v := .int .i64 (m1 : Int)) (lit rfl) (by kernel_rfl) (by kernel_rfl) (by kernel_rfl) (fun _ _ _ h => h) (Or.inl ⟨by rfl, ?_⟩) U1 ?_
                  · rintro w6 hb6
                    go_simp
                  simp only [Act.put, List.setIfInBounds_toArray, List.set_cons_zero, List.set_cons_succ]
                  refine wpAnyH_take (i := 3) (v := .bool true) (lit rfl) (by kernel_rfl) (by kernel_rfl) (by kernel_rfl) (fun _ _ _ h => h) (Or.inl ⟨by rfl, ?_⟩) U1 ?_
                  · rintro w6 hb6
                    go_simp
                  simp only [Act.put, List.setIfInBounds_toArray, List.set_cons_zero, List.set_cons_succ]
                  refine wpAnyH_take (i := 4) (v := .bool true) (lit rfl) (by kernel_rfl) (by kernel_rfl) (by kernel_rfl) (fun _ _ _ h => h) (Or.inl ⟨by rfl, ?_⟩) U1 ?_
                  · rintro w6 hb6
                    go_simp
                  simp only [Act.put, List.setIfInBounds_toArray, List.set_cons_zero, List.set_cons_succ]
                  refine wpAnyH_take (i := 5) (v := .slice (some ⟨g1, o1, none⟩) m1 c1) (lit rfl) (by kernel_rfl) (by kernel_rfl) (by kernel_rfl) (fun _ _ _ h => h) (Or.inl ⟨by rfl, ?_⟩) U1 ?_
                  · rintro w6 hb6
                    go_simp
                  simp only [Act.put, List.setIfInBounds_toArray, List.set_cons_zero, List.set_cons_succ]
                  refine wpAnyH_take (i := 6) (v := .int .i64 (kk : Int)) (lit rfl) (by kernel_rfl) (by kernel_rfl) (by kernel_rfl) (fun _ _ _ h => h) (Or.inl ⟨by rfl, ?_⟩) U1 ?_
                  · rintro w6 hb6
                    go_simp
                  simp only [Act.put, List.setIfInBounds_toArray, List.set_cons_zero, List.set_cons_succ]
                  refine wpAnyH_take (i := 7) (v := .pointer (some ⟨g1, o1 + kk * 4, none⟩)) (lit rfl) (by kernel_rfl) (by kernel_rfl) (by kernel_rfl) (fun _ _ _ h => h) (Or.inl ⟨by rfl, ?_⟩) U1 ?_
                  · rintro w6 hb6
                    go_simp
                  simp only [Act.put, List.setIfInBounds_toArray, List.set_cons_zero, List.set_cons_succ]
                  refine wpAnyH_take (i := 8) (v := .pointer (some ⟨g1, o1 + kk * 4, none⟩)) (lit rfl) (by kernel_rfl) (by kernel_rfl) (by kernel_rfl) (fun _ _ _ h => h) (Or.inl ⟨by rfl, ?_⟩) U1 ?_
                  · rintro w6 hb6
                    go_simp
                  simp only [Act.put, List.setIfInBounds_toArray, List.set_cons_zero, List.set_cons_succ]
                  refine wpAnyH_take (i := 9) (v := .string s1) (lit rfl) (by kernel_rfl) (by kernel_rfl) (by kernel_rfl) (fun _ _ _ h => h) (Or.inl ⟨by rfl, ?_⟩) U1 ?_
                  · rintro w6 hb6
                    obtain ⟨y60, y61⟩ := HX1.out w6 hb6
                    go_simp
                  simp only [Act.put, List.setIfInBounds_toArray, List.set_cons_zero, List.set_cons_succ]
                  refine wpAnyH_take (i := 10) (v := .slice (some ⟨g2, o2, none⟩) m2 c2) (lit rfl) (by kernel_rfl) (by kernel_rfl) (by kernel_rfl) (fun _ _ _ h => h) (Or.inl ⟨by rfl, ?_⟩) U1 ?_
                  · rintro w6 hb6
                    go_simp
                  simp only [Act.put, List.setIfInBounds_toArray, List.set_cons_zero, List.set_cons_succ]
                  refine wpAnyH_take (i := 11) (v := .int .i64 (j : Int)) (lit rfl) (by kernel_rfl) (by kernel_rfl) (by kernel_rfl) (fun _ _ _ h => h) (Or.inl ⟨by rfl, ?_⟩) U1 ?_
                  · rintro w6 hb6
                    go_simp
                  simp only [Act.put, List.setIfInBounds_toArray, List.set_cons_zero, List.set_cons_succ]
                  refine wpAnyH_take (i := 12) (v := .pointer (some ⟨g2, o2 + j * 4, none⟩)) (lit rfl) (by kernel_rfl) (by kernel_rfl) (by kernel_rfl) (fun _ _ _ h => h) (Or.inl ⟨by rfl, ?_⟩) U1 ?_
                  · rintro w6 hb6
                    go_simp
                  simp only [Act.put, List.setIfInBounds_toArray, List.set_cons_zero, List.set_cons_succ]
                  refine wpAnyH_take (i := 13) (v := .pointer (some ⟨g2, o2 + j * 4, none⟩)) (lit rfl) (by kernel_rfl) (by kernel_rfl) (by kernel_rfl) (fun _ _ _ h => h) (Or.inl ⟨by rfl, ?_⟩) U1 ?_
                  · rintro w6 hb6
                    go_simp
                  simp only [Act.put, List.setIfInBounds_toArray, List.set_cons_zero, List.set_cons_succ]
                  refine wpAnyH_take (i := 14) (v := .string sk) (lit rfl) (by kernel_rfl) (by kernel_rfl) (by kernel_rfl) (fun _ _ _ h => h) (Or.inl ⟨by rfl, ?_⟩) U1 ?_
                  · rintro w6 hb6
                    obtain ⟨y60, y61⟩ := HX2.out w6 hb6
                    go_simp
                  simp only [Act.put, List.setIfInBounds_toArray, List.set_cons_zero, List.set_cons_succ]
                  refine wpAnyH_take (i := 15) (v := .bool sm) (lit rfl) (by kernel_rfl) (by kernel_rfl) (by kernel_rfl) (fun _ _ _ h => h) (Or.inl ⟨by rfl, ?_⟩) U1 ?_
                  · rintro w6 hb6
                    go_simp
                  simp only [Act.put, List.setIfInBounds_toArray, List.set_cons_zero, List.set_cons_succ]
                  refine wpAnyH_take (i := 16) (v := .bool sm) (lit rfl) (by kernel_rfl) (by kernel_rfl) (by kernel_rfl) (fun _ _ _ h => h) (Or.inl ⟨by rfl, ?_⟩) U1 ?_
                  · rintro w6 hb6
                    go_simp
                  simp only [Act.put, List.setIfInBounds_toArray, List.set_cons_zero, List.set_cons_succ]
                  refine wpAnyH_take (i := 17) (v := .bool sm) (lit rfl) (by kernel_rfl) (by kernel_rfl) (by kernel_rfl) (fun _ _ _ h => h) (Or.inl ⟨by rfl, ?_⟩) U1 ?_
                  · rintro w6 hb6
                    go_simp
                  simp only [Act.put, List.setIfInBounds_toArray, List.set_cons_zero, List.set_cons_succ]
                  refine wpAnyH_done (by kernel_rfl) ?_ _
                  refine hK _ _ ?_
                  have U2 : Below w9.heap.size w9 We.drew := U1.drew
                  go_wp2
                  first | (rename_i K hK; refine wp_held (fun w6 : World => Below w9.heap.size w9 w6) K hmx ?_ (fun _ _ h => h)) | (rename_i K hK hz; refine wp_held (fun w6 : World => Below w9.heap.size w9 w6) K hmx ?_ (fun _ _ h => h))
                  obtain ⟨Wf, hWd⟩ : ∃ X, We.drew = X := ⟨_, rfl⟩
                  rw [hWd] at U2 ⊢
                  clear hWd
                  refine wpAnyH_take (i := 0) (v := .int .i64 (j : Int)) (lit rfl) (by kernel_rfl) (by kernel_rfl) (by kernel_rfl) (fun _ _ _ h => h) (Or.inl ⟨by rfl, ?_⟩) U2 ?_
                  · rintro w6 hb6
                    go_simp
                  simp only [Act.put, List.setIfInBounds_toArray, List.set_cons_zero, List.set_cons_succ]
                  refine wpAnyH_take (i := 1) (v := .bool false) (lit rfl) (by kernel_rfl) (by kernel_rfl) (by kernel_rfl) (fun _ _ _ h => h) (Or.inl ⟨by rfl, ?_⟩) U2 ?_
                  · rintro w6 hb6
                    go_simp
                    all_goals exact HJP.out
                  simp only [Act.put, List.setIfInBounds_toArray, List.set_cons_zero, List.set_cons_succ]
                  refine wpAnyH_take (i := 2) (v := .bool false) (lit rfl) (by kernel_rfl) (by kernel_rfl) (by kernel_rfl) (fun _ _ _ h => h) (Or.inl ⟨by rfl, ?_⟩) U2 ?_
                  · rintro w6 hb6
                    go_simp
                  simp only [Act.put, List.setIfInBounds_toArray, List.set_cons_zero, List.set_cons_succ]
                  refine wpAnyH_take (i := 3) (v := undef) (lit rfl) (by kernel_rfl) (by kernel_rfl) (by kernel_rfl) (fun _ _ _ h => h) (Or.inr ⟨by rfl, rfl⟩) U2 ?_
                  simp only [Act.put, List.setIfInBounds_toArray, List.set_cons_zero, List.set_cons_succ]
                  refine wpAnyH_take (i := 4) (v := undef) (lit rfl) (by kernel_rfl) (by kernel_rfl) (by kernel_rfl) (fun _ _ _ h => h) (Or.inr ⟨by rfl, rfl⟩) U2 ?_
                  simp only [Act.put, List.setIfInBounds_toArray, List.set_cons_zero, List.set_cons_succ]
                  refine wpAnyH_take (i := 5) (v := undef) (lit rfl) (by kernel_rfl) (by kernel_rfl) (by kernel_rfl) (fun _ _ _ h => h) (Or.inr ⟨by rfl, rfl⟩) U2 ?_
                  simp only [Act.put, List.setIfInBounds_toArray, List.set_cons_zero, List.set_cons_succ]
                  refine wpAnyH_take (i := 6) (v := undef) (lit rfl) (by kernel_rfl) (by kernel_rfl) (by kernel_rfl) (fun _ _ _ h => h) (Or.inr ⟨by rfl, rfl⟩) U2 ?_
                  simp only [Act.put, List.setIfInBounds_toArray, List.set_cons_zero, List.set_cons_succ]
                  refine wpAnyH_take (i := 7) (v := undef) (lit rfl) (by kernel_rfl) (by kernel_rfl) (by kernel_rfl) (fun _ _ _ h => h) (Or.inr ⟨by rfl, rfl⟩) U2 ?_
                  simp only [Act.put, List.setIfInBounds_toArray, List.set_cons_zero, List.set_cons_succ]
                  refine wpAnyH_take (i := 8) (v := undef) (lit rfl) (by kernel_rfl) (by kernel_rfl) (by kernel_rfl) (fun _ _ _ h => h) (Or.inr ⟨by rfl, rfl⟩) U2 ?_
                  simp only [Act.put, List.setIfInBounds_toArray, List.set_cons_zero, List.set_cons_succ]
                  refine wpAnyH_take (i := 9) (v := undef) (lit rfl) (by kernel_rfl) (by kernel_rfl) (by kernel_rfl) (fun _ _ _ h => h) (Or.inr ⟨by rfl, rfl⟩) U2 ?_
                  simp only [Act.put, List.setIfInBounds_toArray, List.set_cons_zero, List.set_cons_succ]
                  refine wpAnyH_take (i := 10) (v := undef) (lit rfl) (by kernel_rfl) (by kernel_rfl) (by kernel_rfl) (fun _ _ _ h => h) (Or.inr ⟨by rfl, rfl⟩) U2 ?_
                  simp only [Act.put, List.setIfInBounds_toArray, List.set_cons_zero, List.set_cons_succ]
                  refine wpAnyH_take (i := 11) (v := undef) (lit rfl) (by kernel_rfl) (by kernel_rfl) (by kernel_rfl) (fun _ _ _ h => h) (Or.inr ⟨by rfl, rfl⟩) U2 ?_
                  simp only [Act.put, List.setIfInBounds_toArray, List.set_cons_zero, List.set_cons_succ]
                  refine wpAnyH_take (i := 12) (v := undef) (lit rfl) (by kernel_rfl) (by kernel_rfl) (by kernel_rfl) (fun _ _ _ h => h) (Or.inr ⟨by rfl, rfl⟩) U2 ?_
                  simp only [Act.put, List.setIfInBounds_toArray, List.set_cons_zero, List.set_cons_succ]
                  refine wpAnyH_take (i := 13) (v := undef) (lit rfl) (by kernel_rfl) (by kernel_rfl) (by kernel_rfl) (fun _ _ _ h => h) (Or.inr ⟨by rfl, rfl⟩) U2 ?_
                  simp only [Act.put, List.setIfInBounds_toArray, List.set_cons_zero, List.set_cons_succ]
                  refine wpAnyH_take (i := 14) (v := undef) (lit rfl) (by kernel_rfl) (by kernel_rfl) (by kernel_rfl) (fun _ _ _ h => h) (Or.inr ⟨by rfl, rfl⟩) U2 ?_
                  simp only [Act.put, List.setIfInBounds_toArray, List.set_cons_zero, List.set_cons_succ]
                  refine wpAnyH_take (i := 15) (v := .bool false) (lit rfl) (by kernel_rfl) (by kernel_rfl) (by kernel_rfl) (fun _ _ _ h => h) (Or.inl ⟨by rfl, ?_⟩) U2 ?_
                  · rintro w6 hb6
                    go_simp
                  simp only [Act.put, List.setIfInBounds_toArray, List.set_cons_zero, List.set_cons_succ]
                  refine wpAnyH_take (i := 16) (v := .bool false) (lit rfl) (by kernel_rfl) (by kernel_rfl) (by kernel_rfl) (fun _ _ _ h => h) (Or.inl ⟨by rfl, ?_⟩) U2 ?_
                  · rintro w6 hb6
                    go_simp
                  simp only [Act.put, List.setIfInBounds_toArray, List.set_cons_zero, List.set_cons_succ]
                  refine wpAnyH_take (i := 17) (v := .bool true) (lit rfl) (by kernel_rfl) (by kernel_rfl) (by kernel_rfl) (fun _ _ _ h => h) (Or.inl ⟨by rfl, ?_⟩) U2 ?_
                  · rintro w6 hb6
                    go_simp
                  simp only [Act.put, List.setIfInBounds_toArray, List.set_cons_zero, List.set_cons_succ]
                  refine wpAnyH_take (i := 18) (v := .bool false) (lit rfl) (by kernel_rfl) (by kernel_rfl) (by kernel_rfl) (fun _ _ _ h => h) (Or.inl ⟨by rfl, ?_⟩) U2 ?_
                  · rintro w6 hb6
                    go_simp
                  simp only [Act.put, List.setIfInBounds_toArray, List.set_cons_zero, List.set_cons_succ]
                  refine wpAnyH_take (i := 19) (v := .bool false) (lit rfl) (by kernel_rfl) (by kernel_rfl) (by kernel_rfl) (fun _ _ _ h => h) (Or.inl ⟨by rfl, ?_⟩) U2 ?_
                  · rintro w6 hb6
                    go_simp
                  simp only [Act.put, List.setIfInBounds_toArray, List.set_cons_zero, List.set_cons_succ]
                  refine wpAnyH_take (i := 20) (v := undef) (lit rfl) (by kernel_rfl) (by kernel_rfl) (by kernel_rfl) (fun _ _ _ h => h) (Or.inr ⟨by rfl, rfl⟩) U2 ?_
                  simp only [Act.put, List.setIfInBounds_toArray, List.set_cons_zero, List.set_cons_succ]
                  refine wpAnyH_take (i := 21) (v := undef) (lit rfl) (by kernel_rfl) (by kernel_rfl) (by kernel_rfl) (fun _ _ _ h => h) (Or.inr ⟨by rfl, rfl⟩) U2 ?_
                  simp only [Act.put, List.setIfInBounds_toArray, List.set_cons_zero, List.set_cons_succ]
                  refine wpAnyH_take (i := 22) (v := undef) (lit rfl) (by kernel_rfl) (by kernel_rfl) (by kernel_rfl) (fun _ _ _ h => h) (Or.inr ⟨by rfl, rfl⟩) U2 ?_
                  simp only [Act.put, List.setIfInBounds_toArray, List.set_cons_zero, List.set_cons_succ]
                  refine wpAnyH_take (i := 23) (v := undef) (lit rfl) (by kernel_rfl) (by kernel_rfl) (by kernel_rfl) (fun _ _ _ h => h) (Or.inr ⟨by rfl, rfl⟩) U2 ?_
                  simp only [Act.put, List.setIfInBounds_toArray, List.set_cons_zero, List.set_cons_succ]
                  refine wpAnyH_take (i := 24) (v := undef) (lit rfl) (by kernel_rfl) (by kernel_rfl) (by kernel_rfl) (fun _ _ _ h => h) (Or.inr ⟨by rfl, rfl⟩) U2 ?_
                  simp only [Act.put, List.setIfInBounds_toArray, List.set_cons_zero, List.set_cons_succ]
                  refine wpAnyH_take (i := 25) (v := undef) (lit rfl) (by kernel_rfl) (by kernel_rfl) (by kernel_rfl) (fun _ _ _ h => h) (Or.inr ⟨by rfl, rfl⟩) U2 ?_
                  simp only [Act.put, List.setIfInBounds_toArray, List.set_cons_zero, List.set_cons_succ]
                  refine wpAnyH_take (i := 26) (v := undef) (lit rfl) (by kernel_rfl) (by kernel_rfl) (by kernel_rfl) (fun _ _ _ h => h) (Or.inr ⟨by rfl, rfl⟩) U2 ?_
                  simp only [Act.put, List.setIfInBounds_toArray, List.set_cons_zero, List.set_cons_succ]
                  refine wpAnyH_take (i := 27) (v := undef) (lit rfl) (by kernel_rfl) (by kernel_rfl) (by kernel_rfl) (fun _ _ _ h => h) (Or.inr ⟨by rfl, rfl⟩) U2 ?_
                  simp only [Act.put, List.setIfInBounds_toArray, List.set_cons_zero, List.set_cons_succ]
                  refine wpAnyH_take (i := 28) (v := undef) (lit rfl) (by kernel_rfl) (by kernel_rfl) (by kernel_rfl) (fun _ _ _ h => h) (Or.inr ⟨by rfl, rfl⟩) U2 ?_
                  simp only [Act.put, List.setIfInBounds_toArray, List.set_cons_zero, List.set_cons_succ]
                  refine wpAnyH_take (i := 29) (v := undef) (lit rfl) (by kernel_rfl) (by kernel_rfl) (by kernel_rfl) (fun _ _ _ h => h) (Or.inr ⟨by rfl, rfl⟩) U2 ?_
                  simp only [Act.put, List.setIfInBounds_toArray, List.set_cons_zero, List.set_cons_succ]
                  refine wpAnyH_take (i := 30) (v := undef) (lit rfl) (by kernel_rfl) (by kernel_rfl) (by kernel_rfl) (fun _ _ _ h => h) (Or.inr ⟨by rfl, rfl⟩) U2 ?_
                  simp only [Act.put, List.setIfInBounds_toArray, List.set_cons_zero, List.set_cons_succ]
                  refine wpAnyH_take (i := 31) (v := undef) (lit rfl) (by kernel_rfl) (by kernel_rfl) (by kernel_rfl) (fun _ _ _ h => h) (Or.inr ⟨by rfl, rfl⟩) U2 ?_
                  simp only [Act.put, List.setIfInBounds_toArray, List.set_cons_zero, List.set_cons_succ]
                  refine wpAnyH_take (i := 32) (v := undef) (lit rfl) (by kernel_rfl) (by kernel_rfl) (by kernel_rfl) (fun _ _ _ h => h) (Or.inr ⟨by rfl, rfl⟩) U2 ?_
                  simp only [Act.put, List.setIfInBounds_toArray, List.set_cons_zero, List.set_cons_succ]
                  refine wpAnyH_take (i := 33) (v := undef) (lit rfl) (by kernel_rfl) (by kernel_rfl) (by kernel_rfl) (fun _ _ _ h => h) (Or.inr ⟨by rfl, rfl⟩) U2 ?_
                  simp only [Act.put, List.setIfInBounds_toArray, List.set_cons_zero, List.set_cons_succ]
                  refine wpAnyH_take (i := 34) (v := undef) (lit rfl) (by kernel_rfl) (by kernel_rfl) (by kernel_rfl) (fun _ _ _ h => h) (Or.inr ⟨by rfl, rfl⟩) U2 ?_
                  simp only [Act.put, List.setIfInBounds_toArray, List.set_cons_zero, List.set_cons_succ]
                  refine wpAnyH_take (i := 35) (v := undef) (lit rfl) (by kernel_rfl) (by kernel_rfl) (by kernel_rfl) (fun _ _ _ h => h) (Or.inr ⟨by rfl, rfl⟩) U2 ?_
                  simp only [Act.put, List.setIfInBounds_toArray, List.set_cons_zero, List.set_cons_succ]
                  refine wpAnyH_take (i := 36) (v := undef) (lit rfl) (by kernel_rfl) (by kernel_rfl) (by kernel_rfl) (fun _ _ _ h => h) (Or.inr ⟨by rfl, rfl⟩) U2 ?_
                  simp only [Act.put, List.setIfInBounds_toArray, List.set_cons_zero, List.set_cons_succ]
                  refine wpAnyH_take (i := 37) (v := .bool false) (lit rfl) (by kernel_rfl) (by kernel_rfl) (by kernel_rfl) (fun _ _ _ h => h) (Or.inl ⟨by rfl, ?_⟩) U2 ?_
                  · rintro w6 hb6
                    go_simp
                  simp only [Act.put, List.setIfInBounds_toArray, List.set_cons_zero, List.set_cons_succ]
                  refine wpAnyH_take (i := 38) (v := .bool false) (lit rfl) (by kernel_rfl) (by kernel_rfl) (by kernel_rfl) (fun _ _ _ h => h) (Or.inl ⟨by rfl, ?_⟩) U2 ?_
                  · rintro w6 hb6
                    go_simp
                  simp only [Act.put, List.setIfInBounds_toArray, List.set_cons_zero, List.set_cons_succ]
                  refine wpAnyH_done (by kernel_rfl) ?_ _
                  refine hK _ _ ?_
                  cases sm
                  · have hnx := HNF.out rfl
                    go_wp2
                    go_roundw
                    case rel => exact ⟨j + 1, by omega, by go_num, (by rw [hnx]; try go_num), U2⟩
                    case measure => simp [intOf]; omega
                  · have hnx := HNT.out rfl
                    go_wp2
                    go_roundw
                    case rel => exact ⟨j + 1, by omega, by go_num, (by rw [hnx]; try go_num), U2⟩
                    case measure => simp [intOf]; omega
                · obtain ⟨jj, hjj⟩ : ∃ jj, j = jj + 1 := ⟨j - 1, by omega⟩
                  have HJP : Hid (0 < j) := Lib.hid hz
                  clear hz hjp hkp
                  have jp : (0 : Int) < (j : Int) := by omega
                  obtain ⟨x3, hx3⟩ : ∃ x, e2[jj]? = some x := ⟨_, List.getElem?_eq_getElem (by have := HM2.out; omega)⟩
                  have hri : bl x3.1 x2.1 := rise_at HPS.out.rise hx3 HX2E.out (by omega)
                  obtain ⟨s3, hs3⟩ : ∃ s : ByteArray, (⟨x3.1.toArray⟩ : ByteArray) = s := ⟨_, rfl⟩
                  have h3l : s3.toList = x3.1 := by rw [← hs3]; exact Go.ByteArray.toList_mk _
                  obtain ⟨hle1, hle2⟩ := le_no hri
                  have hle1 : Op.bytesLess sk.toList s3.toList = false := by rw [H2L.out, h3l]; exact hle1
                  have hle2 : (sk.toList == s3.toList) = false := by rw [H2L.out, h3l]; exact hle2
                  have HX3 : Hid (∀ w6 : World, Below w9.heap.size w9 w6 → w6.cell? ⟨g2, o2 + jj * 4, none⟩ = some (.string s3) ∧ w6.cell? ⟨g2, o2 + jj * 4 + 1, none⟩ = some (.string ⟨x3.2.toArray⟩)) := HX3I.out g2 o2 jj x3 s3 rfl hx3 hs3
                  have hjw : (j : Int) - 1 = (jj : Int) := by omega
                  have jj0 : (0 : Int) ≤ (jj : Int) := by omega
                  have jj1 : (jj : Int) < (m2 : Int) := by omega
                  have hjw2 : IntKind.i64.wrap (jj : Int) = (jj : Int) := by rw [IntWalk.i64_in _ (by omega)]
                  clear hri h3l hx3 hs3 hjj
                  go_wp2
                  first | (rename_i K hK; refine wp_held (fun w6 : World => Below w9.heap.size w9 w6) K hmx ?_ (fun _ _ h => h)) | (rename_i K hK hz; refine wp_held (fun w6 : World => Below w9.heap.size w9 w6) K hmx ?_ (fun _ _ h => h))
                  obtain ⟨Wd, hWd⟩ : ∃ X, wr.drew = X := ⟨_, rfl⟩
                  rw [hWd] at U0 ⊢
                  clear hWd
                  refine wpAnyH_take (i := 0) (v := .slice (some ⟨g2, o2, none⟩) m2 c2) (lit rfl) (by kernel_rfl) (by kernel_rfl) (by kernel_rfl) (fun _ _ _ h => h) (Or.inl ⟨by rfl, ?_⟩) U0 ?_
                  · rintro w6 hb6
                    go_simp
                  simp only [Act.put, List.setIfInBounds_toArray, List.set_cons_zero, List.set_cons_succ]
                  refine wpAnyH_take (i := 1) (v := .int .i64 (j : Int)) (lit rfl) (by kernel_rfl) (by kernel_rfl) (by kernel_rfl) (fun _ _ _ h => h) (Or.inl ⟨by rfl, ?_⟩) U0 ?_
                  · rintro w6 hb6
                    go_simp
                  simp only [Act.put, List.setIfInBounds_toArray, List.set_cons_zero, List.set_cons_succ]
                  refine wpAnyH_take (i := 2) (v := .pointer (some ⟨g2, o2 + j * 4, none⟩)) (lit rfl) (by kernel_rfl) (by kernel_rfl) (by kernel_rfl) (fun _ _ _ h => h) (Or.inl ⟨by rfl, ?_⟩) U0 ?_
                  · rintro w6 hb6
                    go_simp
                  simp only [Act.put, List.setIfInBounds_toArray, List.set_cons_zero, List.set_cons_succ]
                  refine wpAnyH_take (i := 3) (v := .pointer (some ⟨g2, o2 + j * 4, none⟩)) (lit rfl) (by kernel_rfl) (by kernel_rfl) (by kernel_rfl) (fun _ _ _ h => h) (Or.inl ⟨by rfl, ?_⟩) U0 ?_
                  · rintro w6 hb6
                    go_simp
                  simp only [Act.put, List.setIfInBounds_toArray, List.set_cons_zero, List.set_cons_succ]
                  refine wpAnyH_take (i := 4) (v := .string sk) (lit rfl) (by kernel_rfl) (by kernel_rfl) (by kernel_rfl) (fun _ _ _ h => h) (Or.inl ⟨by rfl, ?_⟩) U0 ?_
                  · rintro w6 hb6
                    obtain ⟨y60, y61⟩ := HX2.out w6 hb6
                    go_simp
                  simp only [Act.put, List.setIfInBounds_toArray, List.set_cons_zero, List.set_cons_succ]
                  refine wpAnyH_take (i := 5) (v := .slice (some ⟨gl, offl, none⟩) n c) (lit rfl) (by kernel_rfl) (by kernel_rfl) (by kernel_rfl) (fun _ _ _ h => h) (Or.inl ⟨by rfl, ?_⟩) U0 ?_
                  · rintro w6 hb6
                    go_simp
                  simp only [Act.put, List.setIfInBounds_toArray, List.set_cons_zero, List.set_cons_succ]
                  refine wpAnyH_take (i := 6) (v := .int .i64 (k : Int)) (lit rfl) (by kernel_rfl) (by kernel_rfl) (by kernel_rfl) (fun _ _ _ h => h) (Or.inl ⟨by rfl, ?_⟩) U0 ?_
                  · rintro w6 hb6
                    go_simp
                  simp only [Act.put, List.setIfInBounds_toArray, List.set_cons_zero, List.set_cons_succ]
                  refine wpAnyH_take (i := 7) (v := .pointer (some ⟨gl, offl + k * 3, none⟩)) (lit rfl) (by kernel_rfl) (by kernel_rfl) (by kernel_rfl) (fun _ _ _ h => h) (Or.inl ⟨by rfl, ?_⟩) U0 ?_
                  · rintro w6 hb6
                    go_simp
                  simp only [Act.put, List.setIfInBounds_toArray, List.set_cons_zero, List.set_cons_succ]
                  refine wpAnyH_take (i := 8) (v := .pointer (some ⟨gl, offl + k * 3, none⟩)) (lit rfl) (by kernel_rfl) (by kernel_rfl) (by kernel_rfl) (fun _ _ _ h => h) (Or.inl ⟨by rfl, ?_⟩) U0 ?_
                  · rintro w6 hb6
                    go_simp
                  simp only [Act.put, List.setIfInBounds_toArray, List.set_cons_zero, List.set_cons_succ]
                  refine wpAnyH_take (i := 9) (v := .string sk) (lit rfl) (by kernel_rfl) (by kernel_rfl) (by kernel_rfl) (fun _ _ _ h => h) (Or.inl ⟨by rfl, ?_⟩) U0 ?_
                  · rintro w6 hb6
                    obtain ⟨y60, y61, y62⟩ := HLI.out w6 hb6
                    go_simp
                  simp only [Act.put, List.setIfInBounds_toArray, List.set_cons_zero, List.set_cons_succ]
                  refine wpAnyH_take (i := 10) (v := .bool true) (lit rfl) (by kernel_rfl) (by kernel_rfl) (by kernel_rfl) (fun _ _ _ h => h) (Or.inl ⟨by rfl, ?_⟩) U0 ?_
                  · rintro w6 hb6
                    go_simp
                  simp only [Act.put, List.setIfInBounds_toArray, List.set_cons_zero, List.set_cons_succ]
                  refine wpAnyH_take (i := 11) (v := .bool true) (lit rfl) (by kernel_rfl) (by kernel_rfl) (by kernel_rfl) (fun _ _ _ h => h) (Or.inl ⟨by rfl, ?_⟩) U0 ?_
                  · rintro w6 hb6
                    go_simp
                  simp only [Act.put, List.setIfInBounds_toArray, List.set_cons_zero, List.set_cons_succ]
                  refine wpAnyH_done (by kernel_rfl) ?_ _
                  refine hK _ _ ?_
                  have U1 : Below w9.heap.size w9 Wd.drew := U0.drew
                  go_wp2
                  first | (rename_i K hK; refine wp_held (fun w6 : World => Below w9.heap.size w9 w6) K hmx ?_ (fun _ _ h => h)) | (rename_i K hK hz; refine wp_held (fun w6 : World => Below w9.heap.size w9 w6) K hmx ?_ (fun _ _ h => h))
                  obtain ⟨We, hWd⟩ : ∃ X, Wd.drew = X := ⟨_, rfl⟩
                  rw [hWd] at U1 ⊢
                  clear hWd
                  refine wpAnyH_take (i := 0) (v := .int .i64 (kk : Int)) (lit rfl) (by kernel_rfl) (by kernel_rfl) (by kernel_rfl) (fun _ _ _ h => h) (Or.inl ⟨by rfl, ?_⟩) U1 ?_
                  · rintro w6 hb6
                    go_simp
                  simp only [Act.put, List.setIfInBounds_toArray, List.set_cons_zero, List.set_cons_succ]
                  refine wpAnyH_take (i := 1) (v := .slice (some ⟨g1, o1, none⟩) m1 c1) (lit rfl) (by kernel_rfl) (by kernel_rfl) (by kernel_rfl) (fun _ _ _ h => h) (Or.inl ⟨by rfl, ?_⟩) U1 ?_
                  · rintro w6 hb6
                    go_simp
                  simp only [Act.put, List.setIfInBounds_toArray, List.set_cons_zero, List.set_cons_succ]
                  refine wpAnyH_take (i := 2) (v := .int .i64 (m1 : Int)) (lit rfl) (by kernel_rfl) (by kernel_rfl) (by kernel_rfl) (fun _ _ _ h => h) (Or.inl ⟨by rfl, ?_⟩) U1 ?_
                  · rintro w6 hb6
                    go_simp
                  simp only [Act.put, List.setIfInBounds_toArray, List.set_cons_zero, List.set_cons_succ]
                  refine wpAnyH_take (i := 3) (v := .bool true) (lit rfl) (by kernel_rfl) (by kernel_rfl) (by kernel_rfl) (fun _ _ _ h => h) (Or.inl ⟨by rfl, ?_⟩) U1 ?_
                  · rintro w6 hb6
                    go_simp
                  simp only [Act.put, List.setIfInBounds_toArray, List.set_cons_zero, List.set_cons_succ]
                  refine wpAnyH_take (i := 4) (v := .bool true) (lit rfl) (by kernel_rfl) (by kernel_rfl) (by kernel_rfl) (fun _ _ _ h => h) (Or.inl ⟨by rfl, ?_⟩) U1 ?_
                  · rintro w6 hb6
                    go_simp
                  simp only [Act.put, List.setIfInBounds_toArray, List.set_cons_zero, List.set_cons_succ]
                  refine wpAnyH_take (i := 5) (v := .slice (some ⟨g1, o1, none⟩) m1 c1) (lit rfl) (by kernel_rfl) (by kernel_rfl) (by kernel_rfl) (fun _ _ _ h => h) (Or.inl ⟨by rfl, ?_⟩) U1 ?_
                  · rintro w6 hb6
                    go_simp
                  simp only [Act.put, List.setIfInBounds_toArray, List.set_cons_zero, List.set_cons_succ]
                  refine wpAnyH_take (i := 6) (v := .int .i64 (kk : Int)) (lit rfl) (by kernel_rfl) (by kernel_rfl) (by kernel_rfl) (fun _ _ _ h => h) (Or.inl ⟨by rfl, ?_⟩) U1 ?_
                  · rintro w6 hb6
                    go_simp
                  simp only [Act.put, List.setIfInBounds_toArray, List.set_cons_zero, List.set_cons_succ]
                  refine wpAnyH_take (i := 7) (v := .pointer (some ⟨g1, o1 + kk * 4, none⟩)) (lit rfl) (by kernel_rfl) (by kernel_rfl) (by kernel_rfl) (fun _ _ _ h => h) (Or.inl ⟨by rfl, ?_⟩) U1 ?_
                  · rintro w6 hb6
                    go_simp
                  simp only [Act.put, List.setIfInBounds_toArray, List.set_cons_zero, List.set_cons_succ]
                  refine wpAnyH_take (i := 8) (v := .pointer (some ⟨g1, o1 + kk * 4, none⟩)) (lit rfl) (by kernel_rfl) (by kernel_rfl) (by kernel_rfl) (fun _ _ _ h => h) (Or.inl ⟨by rfl, ?_⟩) U1 ?_
                  · rintro w6 hb6
                    go_simp
                  simp only [Act.put, List.setIfInBounds_toArray, List.set_cons_zero, List.set_cons_succ]
                  refine wpAnyH_take (i := 9) (v := .string s1) (lit rfl) (by kernel_rfl) (by kernel_rfl) (by kernel_rfl) (fun _ _ _ h => h) (Or.inl ⟨by rfl, ?_⟩) U1 ?_
                  · rintro w6 hb6
                    obtain ⟨y60, y61⟩ := HX1.out w6 hb6
                    go_simp
                  simp only [Act.put, List.setIfInBounds_toArray, List.set_cons_zero, List.set_cons_succ]
                  refine wpAnyH_take (i := 10) (v := .slice (some ⟨g2, o2, none⟩) m2 c2) (lit rfl) (by kernel_rfl) (by kernel_rfl) (by kernel_rfl) (fun _ _ _ h => h) (Or.inl ⟨by rfl, ?_⟩) U1 ?_
                  · rintro w6 hb6
                    go_simp
                  simp only [Act.put, List.setIfInBounds_toArray, List.set_cons_zero, List.set_cons_succ]
                  refine wpAnyH_take (i := 11) (v := .int .i64 (j : Int)) (lit rfl) (by kernel_rfl) (by kernel_rfl) (by kernel_rfl) (fun _ _ _ h => h) (Or.inl ⟨by rfl, ?_⟩) U1 ?_
                  · rintro w6 hb6
                    go_simp
                  simp only [Act.put, List.setIfInBounds_toArray, List.set_cons_zero, List.set_cons_succ]
                  refine wpAnyH_take (i := 12) (v := .pointer (some ⟨g2, o2 + j * 4, none⟩)) (lit rfl) (by kernel_rfl) (by kernel_rfl) (by kernel_rfl) (fun _ _ _ h => h) (Or.inl ⟨by rfl, ?_⟩) U1 ?_
                  · rintro w6 hb6
                    go_simp
                  simp only [Act.put, List.setIfInBounds_toArray, List.set_cons_zero, List.set_cons_succ]
                  refine wpAnyH_take (i := 13) (v := .pointer (some ⟨g2, o2 + j * 4, none⟩)) (lit rfl) (by kernel_rfl) (by kernel_rfl) (by kernel_rfl) (fun _ _ _ h => h) (Or.inl ⟨by rfl, ?_⟩) U1 ?_
                  · rintro w6 hb6
                    go_simp
                  simp only [Act.put, List.setIfInBounds_toArray, List.set_cons_zero, List.set_cons_succ]
                  refine wpAnyH_take (i := 14) (v := .string sk) (lit rfl) (by kernel_rfl) (by kernel_rfl) (by kernel_rfl) (fun _ _ _ h => h) (Or.inl ⟨by rfl, ?_⟩) U1 ?_
                  · rintro w6 hb6
                    obtain ⟨y60, y61⟩ := HX2.out w6 hb6
                    go_simp
                  simp only [Act.put, List.setIfInBounds_toArray, List.set_cons_zero, List.set_cons_succ]
                  refine wpAnyH_take (i := 15) (v := .bool sm) (lit rfl) (by kernel_rfl) (by kernel_rfl) (by kernel_rfl) (fun _ _ _ h => h) (Or.inl ⟨by rfl, ?_⟩) U1 ?_
                  · rintro w6 hb6
                    go_simp
                  simp only [Act.put, List.setIfInBounds_toArray, List.set_cons_zero, List.set_cons_succ]
                  refine wpAnyH_take (i := 16) (v := .bool sm) (lit rfl) (by kernel_rfl) (by kernel_rfl) (by kernel_rfl) (fun _ _ _ h => h) (Or.inl ⟨by rfl, ?_⟩) U1 ?_
                  · rintro w6 hb6
                    go_simp
                  simp only [Act.put, List.setIfInBounds_toArray, List.set_cons_zero, List.set_cons_succ]
                  refine wpAnyH_take (i := 17) (v := .bool sm) (lit rfl) (by kernel_rfl) (by kernel_rfl) (by kernel_rfl) (fun _ _ _ h => h) (Or.inl ⟨by rfl, ?_⟩) U1 ?_
                  · rintro w6 hb6
                    go_simp
                  simp only [Act.put, List.setIfInBounds_toArray, List.set_cons_zero, List.set_cons_succ]
                  refine wpAnyH_done (by kernel_rfl) ?_ _
                  refine hK _ _ ?_
                  have U2 : Below w9.heap.size w9 We.drew := U1.drew
                  go_wp2
                  first | (rename_i K hK; refine wp_held (fun w6 : World => Below w9.heap.size w9 w6) K hmx ?_ (fun _ _ h => h)) | (rename_i K hK hz; refine wp_held (fun w6 : World => Below w9.heap.size w9 w6) K hmx ?_ (fun _ _ h => h))
                  obtain ⟨Wf, hWd⟩ : ∃ X, We.drew = X := ⟨_, rfl⟩
                  rw [hWd] at U2 ⊢
                  clear hWd
                  refine wpAnyH_take (i := 0) (v := .int .i64 (j : Int)) (lit rfl) (by kernel_rfl) (by kernel_rfl) (by kernel_rfl) (fun _ _ _ h => h) (Or.inl ⟨by rfl, ?_⟩) U2 ?_
                  · rintro w6 hb6
                    go_simp
                  simp only [Act.put, List.setIfInBounds_toArray, List.set_cons_zero, List.set_cons_succ]
                  refine wpAnyH_take (i := 1) (v := .bool true) (lit rfl) (by kernel_rfl) (by kernel_rfl) (by kernel_rfl) (fun _ _ _ h => h) (Or.inl ⟨by rfl, ?_⟩) U2 ?_
                  · rintro w6 hb6
                    go_simp
                    all_goals exact HJP.out
                  simp only [Act.put, List.setIfInBounds_toArray, List.set_cons_zero, List.set_cons_succ]
                  refine wpAnyH_take (i := 2) (v := .bool true) (lit rfl) (by kernel_rfl) (by kernel_rfl) (by kernel_rfl) (fun _ _ _ h => h) (Or.inl ⟨by rfl, ?_⟩) U2 ?_
                  · rintro w6 hb6
                    go_simp
                  simp only [Act.put, List.setIfInBounds_toArray, List.set_cons_zero, List.set_cons_succ]
                  refine wpAnyH_take (i := 3) (v := .slice (some ⟨g2, o2, none⟩) m2 c2) (lit rfl) (by kernel_rfl) (by kernel_rfl) (by kernel_rfl) (fun _ _ _ h => h) (Or.inl ⟨by rfl, ?_⟩) U2 ?_
                  · rintro w6 hb6
                    go_simp
                  simp only [Act.put, List.setIfInBounds_toArray, List.set_cons_zero, List.set_cons_succ]
                  refine wpAnyH_take (i := 4) (v := .int .i64 (j : Int)) (lit rfl) (by kernel_rfl) (by kernel_rfl) (by kernel_rfl) (fun _ _ _ h => h) (Or.inl ⟨by rfl, ?_⟩) U2 ?_
                  · rintro w6 hb6
                    go_simp
                  simp only [Act.put, List.setIfInBounds_toArray, List.set_cons_zero, List.set_cons_succ]
                  refine wpAnyH_take (i := 5) (v := .pointer (some ⟨g2, o2 + j * 4, none⟩)) (lit rfl) (by kernel_rfl) (by kernel_rfl) (by kernel_rfl) (fun _ _ _ h => h) (Or.inl ⟨by rfl, ?_⟩) U2 ?_
                  · rintro w6 hb6
                    go_simp
                  simp only [Act.put, List.setIfInBounds_toArray, List.set_cons_zero, List.set_cons_succ]
                  refine wpAnyH_take (i := 6) (v := .pointer (some ⟨g2, o2 + j * 4, none⟩)) (lit rfl) (by kernel_rfl) (by kernel_rfl) (by kernel_rfl) (fun _ _ _ h => h) (Or.inl ⟨by rfl, ?_⟩) U2 ?_
                  · rintro w6 hb6
                    go_simp
                  simp only [Act.put, List.setIfInBounds_toArray, List.set_cons_zero, List.set_cons_succ]
                  refine wpAnyH_take (i := 7) (v := .string sk) (lit rfl) (by kernel_rfl) (by kernel_rfl) (by kernel_rfl) (fun _ _ _ h => h) (Or.inl ⟨by rfl, ?_⟩) U2 ?_
                  · rintro w6 hb6
                    obtain ⟨y60, y61⟩ := HX2.out w6 hb6
                    go_simp
                  simp only [Act.put, List.setIfInBounds_toArray, List.set_cons_zero, List.set_cons_succ]
                  refine wpAnyH_take (i := 8) (v := .slice (some ⟨g2, o2, none⟩) m2 c2) (lit rfl) (by kernel_rfl) (by kernel_rfl) (by kernel_rfl) (fun _ _ _ h => h) (Or.inl ⟨by rfl, ?_⟩) U2 ?_
                  · rintro w6 hb6
                    go_simp
                  simp only [Act.put, List.setIfInBounds_toArray, List.set_cons_zero, List.set_cons_succ]
                  refine wpAnyH_take (i := 9) (v := .int .i64 (j : Int)) (lit rfl) (by kernel_rfl) (by kernel_rfl) (by kernel_rfl) (fun _ _ _ h => h) (Or.inl ⟨by rfl, ?_⟩) U2 ?_
                  · rintro w6 hb6
                    go_simp
                  simp only [Act.put, List.setIfInBounds_toArray, List.set_cons_zero, List.set_cons_succ]
                  refine wpAnyH_take (i := 10) (v := .int .i64 (jj : Int)) (lit rfl) (by kernel_rfl) (by kernel_rfl) (by kernel_rfl) (fun _ _ _ h => h) (Or.inl ⟨by rfl, ?_⟩) U2 ?_
                  · rintro w6 hb6
                    go_simp
                  simp only [Act.put, List.setIfInBounds_toArray, List.set_cons_zero, List.set_cons_succ]
                  refine wpAnyH_take (i := 11) (v := .pointer (some ⟨g2, o2 + jj * 4, none⟩)) (lit rfl) (by kernel_rfl) (by kernel_rfl) (by kernel_rfl) (fun _ _ _ h => h) (Or.inl ⟨by rfl, ?_⟩) U2 ?_
                  · rintro w6 hb6
                    go_simp
                  simp only [Act.put, List.setIfInBounds_toArray, List.set_cons_zero, List.set_cons_succ]
                  refine wpAnyH_take (i := 12) (v := .pointer (some ⟨g2, o2 + jj * 4, none⟩)) (lit rfl) (by kernel_rfl) (by kernel_rfl) (by kernel_rfl) (fun _ _ _ h => h) (Or.inl ⟨by rfl, ?_⟩) U2 ?_
                  · rintro w6 hb6
                    go_simp
                  simp only [Act.put, List.setIfInBounds_toArray, List.set_cons_zero, List.set_cons_succ]
                  refine wpAnyH_take (i := 13) (v := .string s3) (lit rfl) (by kernel_rfl) (by kernel_rfl) (by kernel_rfl) (fun _ _ _ h => h) (Or.inl ⟨by rfl, ?_⟩) U2 ?_
                  · rintro w6 hb6
                    obtain ⟨y60, y61⟩ := HX3.out w6 hb6
                    go_simp
                  simp only [Act.put, List.setIfInBounds_toArray, List.set_cons_zero, List.set_cons_succ]
                  refine wpAnyH_take (i := 14) (v := .bool false) (lit rfl) (by kernel_rfl) (by kernel_rfl) (by kernel_rfl) (fun _ _ _ h => h) (Or.inl ⟨by rfl, ?_⟩) U2 ?_
                  · rintro w6 hb6
                    go_simp
                  simp only [Act.put, List.setIfInBounds_toArray, List.set_cons_zero, List.set_cons_succ]
                  refine wpAnyH_take (i := 15) (v := .bool false) (lit rfl) (by kernel_rfl) (by kernel_rfl) (by kernel_rfl) (fun _ _ _ h => h) (Or.inl ⟨by rfl, ?_⟩) U2 ?_
                  · rintro w6 hb6
                    go_simp
                  simp only [Act.put, List.setIfInBounds_toArray, List.set_cons_zero, List.set_cons_succ]
                  refine wpAnyH_take (i := 16) (v := .bool false) (lit rfl) (by kernel_rfl) (by kernel_rfl) (by kernel_rfl) (fun _ _ _ h => h) (Or.inl ⟨by rfl, ?_⟩) U2 ?_
                  · rintro w6 hb6
                    go_simp
                  simp only [Act.put, List.setIfInBounds_toArray, List.set_cons_zero, List.set_cons_succ]
                  refine wpAnyH_take (i := 17) (v := .bool true) (lit rfl) (by kernel_rfl) (by kernel_rfl) (by kernel_rfl) (fun _ _ _ h => h) (Or.inl ⟨by rfl, ?_⟩) U2 ?_
                  · rintro w6 hb6
                    go_simp
                  simp only [Act.put, List.setIfInBounds_toArray, List.set_cons_zero, List.set_cons_succ]
                  refine wpAnyH_take (i := 18) (v := .bool false) (lit rfl) (by kernel_rfl) (by kernel_rfl) (by kernel_rfl) (fun _ _ _ h => h) (Or.inl ⟨by rfl, ?_⟩) U2 ?_
                  · rintro w6 hb6
                    go_simp
                  simp only [Act.put, List.setIfInBounds_toArray, List.set_cons_zero, List.set_cons_succ]
                  refine wpAnyH_take (i := 19) (v := .bool false) (lit rfl) (by kernel_rfl) (by kernel_rfl) (by kernel_rfl) (fun _ _ _ h => h) (Or.inl ⟨by rfl, ?_⟩) U2 ?_
                  · rintro w6 hb6
                    go_simp
                  simp only [Act.put, List.setIfInBounds_toArray, List.set_cons_zero, List.set_cons_succ]
                  refine wpAnyH_take (i := 20) (v := undef) (lit rfl) (by kernel_rfl) (by kernel_rfl) (by kernel_rfl) (fun _ _ _ h => h) (Or.inr ⟨by rfl, rfl⟩) U2 ?_
                  simp only [Act.put, List.setIfInBounds_toArray, List.set_cons_zero, List.set_cons_succ]
                  refine wpAnyH_take (i := 21) (v := undef) (lit rfl) (by kernel_rfl) (by kernel_rfl) (by kernel_rfl) (fun _ _ _ h => h) (Or.inr ⟨by rfl, rfl⟩) U2 ?_
                  simp only [Act.put, List.setIfInBounds_toArray, List.set_cons_zero, List.set_cons_succ]
                  refine wpAnyH_take (i := 22) (v := undef) (lit rfl) (by kernel_rfl) (by kernel_rfl) (by kernel_rfl) (fun _ _ _ h => h) (Or.inr ⟨by rfl, rfl⟩) U2 ?_
                  simp only [Act.put, List.setIfInBounds_toArray, List.set_cons_zero, List.set_cons_succ]
                  refine wpAnyH_take (i := 23) (v := undef) (lit rfl) (by kernel_rfl) (by kernel_rfl) (by kernel_rfl) (fun _ _ _ h => h) (Or.inr ⟨by rfl, rfl⟩) U2 ?_
                  simp only [Act.put, List.setIfInBounds_toArray, List.set_cons_zero, List.set_cons_succ]
                  refine wpAnyH_take (i := 24) (v := undef) (lit rfl) (by kernel_rfl) (by kernel_rfl) (by kernel_rfl) (fun _ _ _ h => h) (Or.inr ⟨by rfl, rfl⟩) U2 ?_
                  simp only [Act.put, List.setIfInBounds_toArray, List.set_cons_zero, List.set_cons_succ]
                  refine wpAnyH_take (i := 25) (v := undef) (lit rfl) (by kernel_rfl) (by kernel_rfl) (by kernel_rfl) (fun _ _ _ h => h) (Or.inr ⟨by rfl, rfl⟩) U2 ?_
                  simp only [Act.put, List.setIfInBounds_toArray, List.set_cons_zero, List.set_cons_succ]
                  refine wpAnyH_take (i := 26) (v := undef) (lit rfl) (by kernel_rfl) (by kernel_rfl) (by kernel_rfl) (fun _ _ _ h => h) (Or.inr ⟨by rfl, rfl⟩) U2 ?_
                  simp only [Act.put, List.setIfInBounds_toArray, List.set_cons_zero, List.set_cons_succ]
                  refine wpAnyH_take (i := 27) (v := undef) (lit rfl) (by kernel_rfl) (by kernel_rfl) (by kernel_rfl) (fun _ _ _ h => h) (Or.inr ⟨by rfl, rfl⟩) U2 ?_
                  simp only [Act.put, List.setIfInBounds_toArray, List.set_cons_zero, List.set_cons_succ]
                  refine wpAnyH_take (i := 28) (v := undef) (lit rfl) (by kernel_rfl) (by kernel_rfl) (by kernel_rfl) (fun _ _ _ h => h) (Or.inr ⟨by rfl, rfl⟩) U2 ?_
                  simp only [Act.put, List.setIfInBounds_toArray, List.set_cons_zero, List.set_cons_succ]
                  refine wpAnyH_take (i := 29) (v := undef) (lit rfl) (by kernel_rfl) (by kernel_rfl) (by kernel_rfl) (fun _ _ _ h => h) (Or.inr ⟨by rfl, rfl⟩) U2 ?_
                  simp only [Act.put, List.setIfInBounds_toArray, List.set_cons_zero, List.set_cons_succ]
                  refine wpAnyH_take (i := 30) (v := undef) (lit rfl) (by kernel_rfl) (by kernel_rfl) (by kernel_rfl) (fun _ _ _ h => h) (Or.inr ⟨by rfl, rfl⟩) U2 ?_
                  simp only [Act.put, List.setIfInBounds_toArray, List.set_cons_zero, List.set_cons_succ]
                  refine wpAnyH_take (i := 31) (v := undef) (lit rfl) (by kernel_rfl) (by kernel_rfl) (by kernel_rfl) (fun _ _ _ h => h) (Or.inr ⟨by rfl, rfl⟩) U2 ?_
                  simp only [Act.put, List.setIfInBounds_toArray, List.set_cons_zero, List.set_cons_succ]
                  refine wpAnyH_take (i := 32) (v := undef) (lit rfl) (by kernel_rfl) (by kernel_rfl) (by kernel_rfl) (fun _ _ _ h => h) (Or.inr ⟨by rfl, rfl⟩) U2 ?_
                  simp only [Act.put, List.setIfInBounds_toArray, List.set_cons_zero, List.set_cons_succ]
                  refine wpAnyH_take (i := 33) (v := undef) (lit rfl) (by kernel_rfl) (by kernel_rfl) (by kernel_rfl) (fun _ _ _ h => h) (Or.inr ⟨by rfl, rfl⟩) U2 ?_
                  simp only [Act.put, List.setIfInBounds_toArray, List.set_cons_zero, List.set_cons_succ]
                  refine wpAnyH_take (i := 34) (v := undef) (lit rfl) (by kernel_rfl) (by kernel_rfl) (by kernel_rfl) (fun _ _ _ h => h) (Or.inr ⟨by rfl, rfl⟩) U2 ?_
                  simp only [Act.put, List.setIfInBounds_toArray, List.set_cons_zero, List.set_cons_succ]
                  refine wpAnyH_take (i := 35) (v := undef) (lit rfl) (by kernel_rfl) (by kernel_rfl) (by kernel_rfl) (fun _ _ _ h => h) (Or.inr ⟨by rfl, rfl⟩) U2 ?_
                  simp only [Act.put, List.setIfInBounds_toArray, List.set_cons_zero, List.set_cons_succ]
                  refine wpAnyH_take (i := 36) (v := undef) (lit rfl) (by kernel_rfl) (by kernel_rfl) (by kernel_rfl) (fun _ _ _ h => h) (Or.inr ⟨by rfl, rfl⟩) U2 ?_
                  simp only [Act.put, List.setIfInBounds_toArray, List.set_cons_zero, List.set_cons_succ]
                  refine wpAnyH_take (i := 37) (v := .bool false) (lit rfl) (by kernel_rfl) (by kernel_rfl) (by kernel_rfl) (fun _ _ _ h => h) (Or.inl ⟨by rfl, ?_⟩) U2 ?_
                  · rintro w6 hb6
                    go_simp
                  simp only [Act.put, List.setIfInBounds_toArray, List.set_cons_zero, List.set_cons_succ]
                  refine wpAnyH_take (i := 38) (v := .bool false) (lit rfl) (by kernel_rfl) (by kernel_rfl) (by kernel_rfl) (fun _ _ _ h => h) (Or.inl ⟨by rfl, ?_⟩) U2 ?_
                  · rintro w6 hb6
                    go_simp
                  simp only [Act.put, List.setIfInBounds_toArray, List.set_cons_zero, List.set_cons_succ]
                  refine wpAnyH_done (by kernel_rfl) ?_ _
                  refine hK _ _ ?_
                  cases sm
                  · have hnx := HNF.out rfl
                    go_wp2
                    go_roundw
                    case rel => exact ⟨j + 1, by omega, by go_num, (by rw [hnx]; try go_num), U2⟩
                    case measure => simp [intOf]; omega
                  · have hnx := HNT.out rfl
                    go_wp2
                    go_roundw
                    case rel => exact ⟨j + 1, by omega, by go_num, (by rw [hnx]; try go_num), U2⟩
                    case measure => simp [intOf]; omega
              · have kk1 : ¬ (kk : Int) < (m1 : Int) := by omega
                have HNF : Hid (kofE ins p (j + 1) = kk) := Lib.hid (by
                  have h1 := HPS.out.len
                  have h2 := HM1.out
                  have h3 := HM2.out
                  rw [hjp, kof_step_own, if_pos (by
                    cases hi : ins with
                    | true => rfl
                    | false =>
                      rw [hi] at h1
                      simp at h1
                      omega), hkp])
                rcases Nat.eq_zero_or_pos j with hz | hz
                · have jp : ¬ (0 : Int) < (j : Int) := by omega
                  have HJP : Hid (j = 0) := Lib.hid hz
                  clear hz hjp hkp
                  go_wp2
                  first | (rename_i K hK; refine wp_held (fun w6 : World => Below w9.heap.size w9 w6) K hmx ?_ (fun _ _ h => h)) | (rename_i K hK hz; refine wp_held (fun w6 : World => Below w9.heap.size w9 w6) K hmx ?_ (fun _ _ h => h))
                  obtain ⟨Wd, hWd⟩ : ∃ X, wr.drew = X := ⟨_, rfl⟩
                  rw [hWd] at U0 ⊢
                  clear hWd
                  refine wpAnyH_take (i := 0) (v := .slice (some ⟨g2, o2, none⟩) m2 c2) (lit rfl) (by kernel_rfl) (by kernel_rfl) (by kernel_rfl) (fun _ _ _ h => h) (Or.inl ⟨by rfl, ?_⟩) U0 ?_
                  · rintro w6 hb6
                    go_simp
                  simp only [Act.put, List.setIfInBounds_toArray, List.set_cons_zero, List.set_cons_succ]
                  refine wpAnyH_take (i := 1) (v := .int .i64 (j : Int)) (lit rfl) (by kernel_rfl) (by kernel_rfl) (by kernel_rfl) (fun _ _ _ h => h) (Or.inl ⟨by rfl, ?_⟩) U0 ?_
                  · rintro w6 hb6
                    go_simp
                  simp only [Act.put, List.setIfInBounds_toArray, List.set_cons_zero, List.set_cons_succ]
                  refine wpAnyH_take (i := 2) (v := .pointer (some ⟨g2, o2 + j * 4, none⟩)) (lit rfl) (by kernel_rfl) (by kernel_rfl) (by kernel_rfl) (fun _ _ _ h => h) (Or.inl ⟨by rfl, ?_⟩) U0 ?_
                  · rintro w6 hb6
                    go_simp
                  simp only [Act.put, List.setIfInBounds_toArray, List.set_cons_zero, List.set_cons_succ]
                  refine wpAnyH_take (i := 3) (v := .pointer (some ⟨g2, o2 + j * 4, none⟩)) (lit rfl) (by kernel_rfl) (by kernel_rfl) (by kernel_rfl) (fun _ _ _ h => h) (Or.inl ⟨by rfl, ?_⟩) U0 ?_
                  · rintro w6 hb6
                    go_simp
                  simp only [Act.put, List.setIfInBounds_toArray, List.set_cons_zero, List.set_cons_succ]
                  refine wpAnyH_take (i := 4) (v := .string sk) (lit rfl) (by kernel_rfl) (by kernel_rfl) (by kernel_rfl) (fun _ _ _ h => h) (Or.inl ⟨by rfl, ?_⟩) U0 ?_
                  · rintro w6 hb6
                    obtain ⟨y60, y61⟩ := HX2.out w6 hb6
                    go_simp
                  simp only [Act.put, List.setIfInBounds_toArray, List.set_cons_zero, List.set_cons_succ]
                  refine wpAnyH_take (i := 5) (v := .slice (some ⟨gl, offl, none⟩) n c) (lit rfl) (by kernel_rfl) (by kernel_rfl) (by kernel_rfl) (fun _ _ _ h => h) (Or.inl ⟨by rfl, ?_⟩) U0 ?_
                  · rintro w6 hb6
                    go_simp
                  simp only [Act.put, List.setIfInBounds_toArray, List.set_cons_zero, List.set_cons_succ]
                  refine wpAnyH_take (i := 6) (v := .int .i64 (k : Int)) (lit rfl) (by kernel_rfl) (by kernel_rfl) (by kernel_rfl) (fun _ _ _ h => h) (Or.inl ⟨by rfl, ?_⟩) U0 ?_
                  · rintro w6 hb6
                    go_simp
                  simp only [Act.put, List.setIfInBounds_toArray, List.set_cons_zero, List.set_cons_succ]
                  refine wpAnyH_take (i := 7) (v := .pointer (some ⟨gl, offl + k * 3, none⟩)) (lit rfl) (by kernel_rfl) (by kernel_rfl) (by kernel_rfl) (fun _ _ _ h => h) (Or.inl ⟨by rfl, ?_⟩) U0 ?_
                  · rintro w6 hb6
                    go_simp
                  simp only [Act.put, List.setIfInBounds_toArray, List.set_cons_zero, List.set_cons_succ]
                  refine wpAnyH_take (i := 8) (v := .pointer (some ⟨gl, offl + k * 3, none⟩)) (lit rfl) (by kernel_rfl) (by kernel_rfl) (by kernel_rfl) (fun _ _ _ h => h) (Or.inl ⟨by rfl, ?_⟩) U0 ?_
                  · rintro w6 hb6
                    go_simp
                  simp only [Act.put, List.setIfInBounds_toArray, List.set_cons_zero, List.set_cons_succ]
                  refine wpAnyH_take (i := 9) (v := .string sk) (lit rfl) (by kernel_rfl) (by kernel_rfl) (by kernel_rfl) (fun _ _ _ h => h) (Or.inl ⟨by rfl, ?_⟩) U0 ?_
                  · rintro w6 hb6
                    obtain ⟨y60, y61, y62⟩ := HLI.out w6 hb6
                    go_simp
                  simp only [Act.put, List.setIfInBounds_toArray, List.set_cons_zero, List.set_cons_succ]
                  refine wpAnyH_take (i := 10) (v := .bool true) (lit rfl) (by kernel_rfl) (by kernel_rfl) (by kernel_rfl) (fun _ _ _ h => h) (Or.inl ⟨by rfl, ?_⟩) U0 ?_
                  · rintro w6 hb6
                    go_simp
                  simp only [Act.put, List.setIfInBounds_toArray, List.set_cons_zero, List.set_cons_succ]
                  refine wpAnyH_take (i := 11) (v := .bool true) (lit rfl) (by kernel_rfl) (by kernel_rfl) (by kernel_rfl) (fun _ _ _ h => h) (Or.inl ⟨by rfl, ?_⟩) U0 ?_
                  · rintro w6 hb6
                    go_simp
                  simp only [Act.put, List.setIfInBounds_toArray, List.set_cons_zero, List.set_cons_succ]
                  refine wpAnyH_done (by kernel_rfl) ?_ _
                  refine hK _ _ ?_
                  have U1 : Below w9.heap.size w9 Wd.drew := U0.drew
                  go_wp2
                  first | (rename_i K hK; refine wp_held (fun w6 : World => Below w9.heap.size w9 w6) K hmx ?_ (fun _ _ h => h)) | (rename_i K hK hz; refine wp_held (fun w6 : World => Below w9.heap.size w9 w6) K hmx ?_ (fun _ _ h => h))
                  obtain ⟨We, hWd⟩ : ∃ X, Wd.drew = X := ⟨_, rfl⟩
                  rw [hWd] at U1 ⊢
                  clear hWd
                  refine wpAnyH_take (i := 0) (v := .int .i64 (kk : Int)) (lit rfl) (by kernel_rfl) (by kernel_rfl) (by kernel_rfl) (fun _ _ _ h => h) (Or.inl ⟨by rfl, ?_⟩) U1 ?_
                  · rintro w6 hb6
                    go_simp
                  simp only [Act.put, List.setIfInBounds_toArray, List.set_cons_zero, List.set_cons_succ]
                  refine wpAnyH_take (i := 1) (v := .slice A1 m1 c1) (lit rfl) (by kernel_rfl) (by kernel_rfl) (by kernel_rfl) (fun _ _ _ h => h) (Or.inl ⟨by rfl, ?_⟩) U1 ?_
                  · rintro w6 hb6
                    go_simp
                  simp only [Act.put, List.setIfInBounds_toArray, List.set_cons_zero, List.set_cons_succ]
                  refine wpAnyH_take (i := 2) (v := .int .i64 (m1 : Int)) (lit rfl) (by kernel_rfl) (by kernel_rfl) (by kernel_rfl) (fun _ _ _ h => h) (Or.inl ⟨by rfl, ?_⟩) U1 ?_
                  · rintro w6 hb6
                    go_simp
                  simp only [Act.put, List.setIfInBounds_toArray, List.set_cons_zero, List.set_cons_succ]
                  refine wpAnyH_take (i := 3) (v := .bool false) (lit rfl) (by kernel_rfl) (by kernel_rfl) (by kernel_rfl) (fun _ _ _ h => h) (Or.inl ⟨by rfl, ?_⟩) U1 ?_
                  · rintro w6 hb6
                    go_simp
                  simp only [Act.put, List.setIfInBounds_toArray, List.set_cons_zero, List.set_cons_succ]
                  refine wpAnyH_take (i := 4) (v := .bool false) (lit rfl) (by kernel_rfl) (by kernel_rfl) (by kernel_rfl) (fun _ _ _ h => h) (Or.inl ⟨by rfl, ?_⟩) U1 ?_
                  · rintro w6 hb6
                    go_simp
                  simp only [Act.put, List.setIfInBounds_toArray, List.set_cons_zero, List.set_cons_succ]
                  refine wpAnyH_take (i := 5) (v := undef) (lit rfl) (by kernel_rfl) (by kernel_rfl) (by kernel_rfl) (fun _ _ _ h => h) (Or.inr ⟨by rfl, rfl⟩) U1 ?_
                  simp only [Act.put, List.setIfInBounds_toArray, List.set_cons_zero, List.set_cons_succ]
                  refine wpAnyH_take (i := 6) (v := undef) (lit rfl) (by kernel_rfl) (by kernel_rfl) (by kernel_rfl) (fun _ _ _ h => h) (Or.inr ⟨by rfl, rfl⟩) U1 ?_
                  simp only [Act.put, List.setIfInBounds_toArray, List.set_cons_zero, List.set_cons_succ]
                  refine wpAnyH_take (i := 7) (v := undef) (lit rfl) (by kernel_rfl) (by kernel_rfl) (by kernel_rfl) (fun _ _ _ h => h) (Or.inr ⟨by rfl, rfl⟩) U1 ?_
                  simp only [Act.put, List.setIfInBounds_toArray, List.set_cons_zero, List.set_cons_succ]
                  refine wpAnyH_take (i := 8) (v := undef) (lit rfl) (by kernel_rfl) (by kernel_rfl) (by kernel_rfl) (fun _ _ _ h => h) (Or.inr ⟨by rfl, rfl⟩) U1 ?_
                  simp only [Act.put, List.setIfInBounds_toArray, List.set_cons_zero, List.set_cons_succ]
                  refine wpAnyH_take (i := 9) (v := undef) (lit rfl) (by kernel_rfl) (by kernel_rfl) (by kernel_rfl) (fun _ _ _ h => h) (Or.inr ⟨by rfl, rfl⟩) U1 ?_
                  simp only [Act.put, List.setIfInBounds_toArray, List.set_cons_zero, List.set_cons_succ]
                  refine wpAnyH_take (i := 10) (v := undef) (lit rfl) (by kernel_rfl) (by kernel_rfl) (by kernel_rfl) (fun _ _ _ h => h) (Or.inr ⟨by rfl, rfl⟩) U1 ?_
                  simp only [Act.put, List.setIfInBounds_toArray, List.set_cons_zero, List.set_cons_succ]
                  refine wpAnyH_take (i := 11) (v := undef) (lit rfl) (by kernel_rfl) (by kernel_rfl) (by kernel_rfl) (fun _ _ _ h => h) (Or.inr ⟨by rfl, rfl⟩) U1 ?_
                  simp only [Act.put, List.setIfInBounds_toArray, List.set_cons_zero, List.set_cons_succ]
                  refine wpAnyH_take (i := 12) (v := undef) (lit rfl) (by kernel_rfl) (by kernel_rfl) (by kernel_rfl) (fun _ _ _ h => h) (Or.inr ⟨by rfl, rfl⟩) U1 ?_
                  simp only [Act.put, List.setIfInBounds_toArray, List.set_cons_zero, List.set_cons_succ]
                  refine wpAnyH_take (i := 13) (v := undef) (lit rfl) (by kernel_rfl) (by kernel_rfl) (by kernel_rfl) (fun _ _ _ h => h) (Or.inr ⟨by rfl, rfl⟩) U1 ?_
                  simp only [Act.put, List.setIfInBounds_toArray, List.set_cons_zero, List.set_cons_succ]
                  refine wpAnyH_take (i := 14) (v := undef) (lit rfl) (by kernel_rfl) (by kernel_rfl) (by kernel_rfl) (fun _ _ _ h => h) (Or.inr ⟨by rfl, rfl⟩) U1 ?_
                  simp only [Act.put, List.setIfInBounds_toArray, List.set_cons_zero, List.set_cons_succ]
                  refine wpAnyH_take (i := 15) (v := undef) (lit rfl) (by kernel_rfl) (by kernel_rfl) (by kernel_rfl) (fun _ _ _ h => h) (Or.inr ⟨by rfl, rfl⟩) U1 ?_
                  simp only [Act.put, List.setIfInBounds_toArray, List.set_cons_zero, List.set_cons_succ]
                  refine wpAnyH_take (i := 16) (v := .bool false) (lit rfl) (by kernel_rfl) (by kernel_rfl) (by kernel_rfl) (fun _ _ _ h => h) (Or.inl ⟨by rfl, ?_⟩) U1 ?_
                  · rintro w6 hb6
                    go_simp
                  simp only [Act.put, List.setIfInBounds_toArray, List.set_cons_zero, List.set_cons_succ]
                  refine wpAnyH_take (i := 17) (v := .bool false) (lit rfl) (by kernel_rfl) (by kernel_rfl) (by kernel_rfl) (fun _ _ _ h => h) (Or.inl ⟨by rfl, ?_⟩) U1 ?_
                  · rintro w6 hb6
                    go_simp
                  simp only [Act.put, List.setIfInBounds_toArray, List.set_cons_zero, List.set_cons_succ]
                  refine wpAnyH_done (by kernel_rfl) ?_ _
                  refine hK _ _ ?_
                  have U2 : Below w9.heap.size w9 We.drew := U1.drew
                  go_wp2
                  first | (rename_i K hK; refine wp_held (fun w6 : World => Below w9.heap.size w9 w6) K hmx ?_ (fun _ _ h => h)) | (rename_i K hK hz; refine wp_held (fun w6 : World => Below w9.heap.size w9 w6) K hmx ?_ (fun _ _ h => h))
                  obtain ⟨Wf, hWd⟩ : ∃ X, We.drew = X := ⟨_, rfl⟩
                  rw [hWd] at U2 ⊢
                  clear hWd
                  refine wpAnyH_take (i := 0) (v := .int .i64 (j : Int)) (lit rfl) (by kernel_rfl) (by kernel_rfl) (by kernel_rfl) (fun _ _ _ h => h) (Or.inl ⟨by rfl, ?_⟩) U2 ?_
                  · rintro w6 hb6
                    go_simp
                  simp only [Act.put, List.setIfInBounds_toArray, List.set_cons_zero, List.set_cons_succ]
                  refine wpAnyH_take (i := 1) (v := .bool false) (lit rfl) (by kernel_rfl) (by kernel_rfl) (by kernel_rfl) (fun _ _ _ h => h) (Or.inl ⟨by rfl, ?_⟩) U2 ?_
                  · rintro w6 hb6
                    go_simp
                    all_goals exact HJP.out
                  simp only [Act.put, List.setIfInBounds_toArray, List.set_cons_zero, List.set_cons_succ]
                  refine wpAnyH_take (i := 2) (v := .bool false) (lit rfl) (by kernel_rfl) (by kernel_rfl) (by kernel_rfl) (fun _ _ _ h => h) (Or.inl ⟨by rfl, ?_⟩) U2 ?_
                  · rintro w6 hb6
                    go_simp
                  simp only [Act.put, List.setIfInBounds_toArray, List.set_cons_zero, List.set_cons_succ]
                  refine wpAnyH_take (i := 3) (v := undef) (lit rfl) (by kernel_rfl) (by kernel_rfl) (by kernel_rfl) (fun _ _ _ h => h) (Or.inr ⟨by rfl, rfl⟩) U2 ?_
                  simp only [Act.put, List.setIfInBounds_toArray, List.set_cons_zero, List.set_cons_succ]
                  refine wpAnyH_take (i := 4) (v := undef) (lit rfl) (by kernel_rfl) (by kernel_rfl) (by kernel_rfl) (fun _ _ _ h => h) (Or.inr ⟨by rfl, rfl⟩) U2 ?_
                  simp only [Act.put, List.setIfInBounds_toArray, List.set_cons_zero, List.set_cons_succ]
                  refine wpAnyH_take (i := 5) (v := undef) (lit rfl) (by kernel_rfl) (by kernel_rfl) (by kernel_rfl) (fun _ _ _ h => h) (Or.inr ⟨by rfl, rfl⟩) U2 ?_
                  simp only [Act.put, List.setIfInBounds_toArray, List.set_cons_zero, List.set_cons_succ]
                  refine wpAnyH_take (i := 6) (v := undef) (lit rfl) (by kernel_rfl) (by kernel_rfl) (by kernel_rfl) (fun _ _ _ h => h) (Or.inr ⟨by rfl, rfl⟩) U2 ?_
                  simp only [Act.put, List.setIfInBounds_toArray, List.set_cons_zero, List.set_cons_succ]
                  refine wpAnyH_take (i := 7) (v := undef) (lit rfl) (by kernel_rfl) (by kernel_rfl) (by kernel_rfl) (fun _ _ _ h => h) (Or.inr ⟨by rfl, rfl⟩) U2 ?_
                  simp only [Act.put, List.setIfInBounds_toArray, List.set_cons_zero, List.set_cons_succ]
                  refine wpAnyH_take (i := 8) (v := undef) (lit rfl) (by kernel_rfl) (by kernel_rfl) (by kernel_rfl) (fun _ _ _ h => h) (Or.inr ⟨by rfl, rfl⟩) U2 ?_
                  simp only [Act.put, List.setIfInBounds_toArray, List.set_cons_zero, List.set_cons_succ]
                  refine wpAnyH_take (i := 9) (v := undef) (lit rfl) (by kernel_rfl) (by kernel_rfl) (by kernel_rfl) (fun _ _ _ h => h) (Or.inr ⟨by rfl, rfl⟩) U2 ?_
                  simp only [Act.put, List.setIfInBounds_toArray, List.set_cons_zero, List.set_cons_succ]
                  refine wpAnyH_take (i := 10) (v := undef) (lit rfl) (by kernel_rfl) (by kernel_rfl) (by kernel_rfl) (fun _ _ _ h => h) (Or.inr ⟨by rfl, rfl⟩) U2 ?_
                  simp only [Act.put, List.setIfInBounds_toArray, List.set_cons_zero, List.set_cons_succ]
                  refine wpAnyH_take (i := 11) (v := undef) (lit rfl) (by kernel_rfl) (by kernel_rfl) (by kernel_rfl) (fun _ _ _ h => h) (Or.inr ⟨by rfl, rfl⟩) U2 ?_
                  simp only [Act.put, List.setIfInBounds_toArray, List.set_cons_zero, List.set_cons_succ]
                  refine wpAnyH_take (i := 12) (v := undef) (lit rfl) (by kernel_rfl) (by kernel_rfl) (by kernel_rfl) (fun _ _ _ h => h) (Or.inr ⟨by rfl, rfl⟩) U2 ?_
                  simp only [Act.put, List.setIfInBounds_toArray, List.set_cons_zero, List.set_cons_succ]
                  refine wpAnyH_take (i := 13) (v := undef) (lit rfl) (by kernel_rfl) (by kernel_rfl) (by kernel_rfl) (fun _ _ _ h => h) (Or.inr ⟨by rfl, rfl⟩) U2 ?_
                  simp only [Act.put, List.setIfInBounds_toArray, List.set_cons_zero, List.set_cons_succ]
                  refine wpAnyH_take (i := 14) (v := undef) (lit rfl) (by kernel_rfl) (by kernel_rfl) (by kernel_rfl) (fun _ _ _ h => h) (Or.inr ⟨by rfl, rfl⟩) U2 ?_
                  simp only [Act.put, List.setIfInBounds_toArray, List.set_cons_zero, List.set_cons_succ]
                  refine wpAnyH_take (i := 15) (v := .bool false) (lit rfl) (by kernel_rfl) (by kernel_rfl) (by kernel_rfl) (fun _ _ _ h => h) (Or.inl ⟨by rfl, ?_⟩) U2 ?_
                  · rintro w6 hb6
                    go_simp
                  simp only [Act.put, List.setIfInBounds_toArray, List.set_cons_zero, List.set_cons_succ]
                  refine wpAnyH_take (i := 16) (v := .bool false) (lit rfl) (by kernel_rfl) (by kernel_rfl) (by kernel_rfl) (fun _ _ _ h => h) (Or.inl ⟨by rfl, ?_⟩) U2 ?_
                  · rintro w6 hb6
                    go_simp
                  simp only [Act.put, List.setIfInBounds_toArray, List.set_cons_zero, List.set_cons_succ]
                  refine wpAnyH_take (i := 17) (v := .bool true) (lit rfl) (by kernel_rfl) (by kernel_rfl) (by kernel_rfl) (fun _ _ _ h => h) (Or.inl ⟨by rfl, ?_⟩) U2 ?_
                  · rintro w6 hb6
                    go_simp
                  simp only [Act.put, List.setIfInBounds_toArray, List.set_cons_zero, List.set_cons_succ]
                  refine wpAnyH_take (i := 18) (v := .bool false) (lit rfl) (by kernel_rfl) (by kernel_rfl) (by kernel_rfl) (fun _ _ _ h => h) (Or.inl ⟨by rfl, ?_⟩) U2 ?_
                  · rintro w6 hb6
                    go_simp
                  simp only [Act.put, List.setIfInBounds_toArray, List.set_cons_zero, List.set_cons_succ]
                  refine wpAnyH_take (i := 19) (v := .bool false) (lit rfl) (by kernel_rfl) (by kernel_rfl) (by kernel_rfl) (fun _ _ _ h => h) (Or.inl ⟨by rfl, ?_⟩) U2 ?_
                  · rintro w6 hb6
                    go_simp
                  simp only [Act.put, List.setIfInBounds_toArray, List.set_cons_zero, List.set_cons_succ]
                  refine wpAnyH_take (i := 20) (v := undef) (lit rfl) (by kernel_rfl) (by kernel_rfl) (by kernel_rfl) (fun _ _ _ h => h) (Or.inr ⟨by rfl, rfl⟩) U2 ?_
                  simp only [Act.put, List.setIfInBounds_toArray, List.set_cons_zero, List.set_cons_succ]
                  refine wpAnyH_take (i := 21) (v := undef) (lit rfl) (by kernel_rfl) (by kernel_rfl) (by kernel_rfl) (fun _ _ _ h => h) (Or.inr ⟨by rfl, rfl⟩) U2 ?_
                  simp only [Act.put, List.setIfInBounds_toArray, List.set_cons_zero, List.set_cons_succ]
                  refine wpAnyH_take (i := 22) (v := undef) (lit rfl) (by kernel_rfl) (by kernel_rfl) (by kernel_rfl) (fun _ _ _ h => h) (Or.inr ⟨by rfl, rfl⟩) U2 ?_
                  simp only [Act.put, List.setIfInBounds_toArray, List.set_cons_zero, List.set_cons_succ]
                  refine wpAnyH_take (i := 23) (v := undef) (lit rfl) (by kernel_rfl) (by kernel_rfl) (by kernel_rfl) (fun _ _ _ h => h) (Or.inr ⟨by rfl, rfl⟩) U2 ?_
                  simp only [Act.put, List.setIfInBounds_toArray, List.set_cons_zero, List.set_cons_succ]
                  refine wpAnyH_take (i := 24) (v := undef) (lit rfl) (by kernel_rfl) (by kernel_rfl) (by kernel_rfl) (fun _ _ _ h => h) (Or.inr ⟨by rfl, rfl⟩) U2 ?_
                  simp only [Act.put, List.setIfInBounds_toArray, List.set_cons_zero, List.set_cons_succ]
                  refine wpAnyH_take (i := 25) (v := undef) (lit rfl) (by kernel_rfl) (by kernel_rfl) (by kernel_rfl) (fun _ _ _ h => h) (Or.inr ⟨by rfl, rfl⟩) U2 ?_
                  simp only [Act.put, List.setIfInBounds_toArray, List.set_cons_zero, List.set_cons_succ]
                  refine wpAnyH_take (i := 26) (v := undef) (lit rfl) (by kernel_rfl) (by kernel_rfl) (by kernel_rfl) (fun _ _ _ h => h) (Or.inr ⟨by rfl, rfl⟩) U2 ?_
                  simp only [Act.put, List.setIfInBounds_toArray, List.set_cons_zero, List.set_cons_succ]
                  refine wpAnyH_take (i := 27) (v := undef) (lit rfl) (by kernel_rfl) (by kernel_rfl) (by kernel_rfl) (fun _ _ _ h => h) (Or.inr ⟨by rfl, rfl⟩) U2 ?_
                  simp only [Act.put, List.setIfInBounds_toArray, List.set_cons_zero, List.set_cons_succ]
                  refine wpAnyH_take (i := 28) (v := undef) (lit rfl) (by kernel_rfl) (by kernel_rfl) (by kernel_rfl) (fun _ _ _ h => h) (Or.inr ⟨by rfl, rfl⟩) U2 ?_
                  simp only [Act.put, List.setIfInBounds_toArray, List.set_cons_zero, List.set_cons_succ]
                  refine wpAnyH_take (i := 29) (v := undef) (lit rfl) (by kernel_rfl) (by kernel_rfl) (by kernel_rfl) (fun _ _ _ h => h) (Or.inr ⟨by rfl, rfl⟩) U2 ?_
                  simp only [Act.put, List.setIfInBounds_toArray, List.set_cons_zero, List.set_cons_succ]
                  refine wpAnyH_take (i := 30) (v := undef) (lit rfl) (by kernel_rfl) (by kernel_rfl) (by kernel_rfl) (fun _ _ _ h => h) (Or.inr ⟨by rfl, rfl⟩) U2 ?_
                  simp only [Act.put, List.setIfInBounds_toArray, List.set_cons_zero, List.set_cons_succ]
                  refine wpAnyH_take (i := 31) (v := undef) (lit rfl) (by kernel_rfl) (by kernel_rfl) (by kernel_rfl) (fun _ _ _ h => h) (Or.inr ⟨by rfl, rfl⟩) U2 ?_
                  simp only [Act.put, List.setIfInBounds_toArray, List.set_cons_zero, List.set_cons_succ]
                  refine wpAnyH_take (i := 32) (v := undef) (lit rfl) (by kernel_rfl) (by kernel_rfl) (by kernel_rfl) (fun _ _ _ h => h) (Or.inr ⟨by rfl, rfl⟩) U2 ?_
                  simp only [Act.put, List.setIfInBounds_toArray, List.set_cons_zero, List.set_cons_succ]
                  refine wpAnyH_take (i := 33) (v := undef) (lit rfl) (by kernel_rfl) (by kernel_rfl) (by kernel_rfl) (fun _ _ _ h => h) (Or.inr ⟨by rfl, rfl⟩) U2 ?_
                  simp only [Act.put, List.setIfInBounds_toArray, List.set_cons_zero, List.set_cons_succ]
                  refine wpAnyH_take (i := 34) (v := undef) (lit rfl) (by kernel_rfl) (by kernel_rfl) (by kernel_rfl) (fun _ _ _ h => h) (Or.inr ⟨by rfl, rfl⟩) U2 ?_
                  simp only [Act.put, List.setIfInBounds_toArray, List.set_cons_zero, List.set_cons_succ]
                  refine wpAnyH_take (i := 35) (v := undef) (lit rfl) (by kernel_rfl) (by kernel_rfl) (by kernel_rfl) (fun _ _ _ h => h) (Or.inr ⟨by rfl, rfl⟩) U2 ?_
                  simp only [Act.put, List.setIfInBounds_toArray, List.set_cons_zero, List.set_cons_succ]
                  refine wpAnyH_take (i := 36) (v := undef) (lit rfl) (by kernel_rfl) (by kernel_rfl) (by kernel_rfl) (fun _ _ _ h => h) (Or.inr ⟨by rfl, rfl⟩) U2 ?_
                  simp only [Act.put, List.setIfInBounds_toArray, List.set_cons_zero, List.set_cons_succ]
                  refine wpAnyH_take (i := 37) (v := .bool false) (lit rfl) (by kernel_rfl) (by kernel_rfl) (by kernel_rfl) (fun _ _ _ h => h) (Or.inl ⟨by rfl, ?_⟩) U2 ?_
                  · rintro w6 hb6
                    go_simp
                  simp only [Act.put, List.setIfInBounds_toArray, List.set_cons_zero, List.set_cons_succ]
                  refine wpAnyH_take (i := 38) (v := .bool false) (lit rfl) (by kernel_rfl) (by kernel_rfl) (by kernel_rfl) (fun _ _ _ h => h) (Or.inl ⟨by rfl, ?_⟩) U2 ?_
                  · rintro w6 hb6
                    go_simp
                  simp only [Act.put, List.setIfInBounds_toArray, List.set_cons_zero, List.set_cons_succ]
                  refine wpAnyH_done (by kernel_rfl) ?_ _
                  refine hK _ _ ?_
                  have hnx := HNF.out
                  go_wp2
                  go_roundw
                  case rel => exact ⟨j + 1, by omega, by go_num, (by rw [hnx]; try go_num), U2⟩
                  case measure => simp [intOf]; omega
                · obtain ⟨jj, hjj⟩ : ∃ jj, j = jj + 1 := ⟨j - 1, by omega⟩
                  have HJP : Hid (0 < j) := Lib.hid hz
                  clear hz hjp hkp
                  have jp : (0 : Int) < (j : Int) := by omega
                  obtain ⟨x3, hx3⟩ : ∃ x, e2[jj]? = some x := ⟨_, List.getElem?_eq_getElem (by have := HM2.out; omega)⟩
                  have hri : bl x3.1 x2.1 := rise_at HPS.out.rise hx3 HX2E.out (by omega)
                  obtain ⟨s3, hs3⟩ : ∃ s : ByteArray, (⟨x3.1.toArray⟩ : ByteArray) = s := ⟨_, rfl⟩
                  have h3l : s3.toList = x3.1 := by rw [← hs3]; exact Go.ByteArray.toList_mk _
                  obtain ⟨hle1, hle2⟩ := le_no hri
                  have hle1 : Op.bytesLess sk.toList s3.toList = false := by rw [H2L.out, h3l]; exact hle1
                  have hle2 : (sk.toList == s3.toList) = false := by rw [H2L.out, h3l]; exact hle2
                  have HX3 : Hid (∀ w6 : World, Below w9.heap.size w9 w6 → w6.cell? ⟨g2, o2 + jj * 4, none⟩ = some (.string s3) ∧ w6.cell? ⟨g2, o2 + jj * 4 + 1, none⟩ = some (.string ⟨x3.2.toArray⟩)) := HX3I.out g2 o2 jj x3 s3 rfl hx3 hs3
                  have hjw : (j : Int) - 1 = (jj : Int) := by omega
                  have jj0 : (0 : Int) ≤ (jj : Int) := by omega
                  have jj1 : (jj : Int) < (m2 : Int) := by omega
                  have hjw2 : IntKind.i64.wrap (jj : Int) = (jj : Int) := by rw [IntWalk.i64_in _ (by omega)]
                  clear hri h3l hx3 hs3 hjj
                  go_wp2
                  first | (rename_i K hK; refine wp_held (fun w6 : World => Below w9.heap.size w9 w6) K hmx ?_ (fun _ _ h => h)) | (rename_i K hK hz; refine wp_held (fun w6 : World => Below w9.heap.size w9 w6) K hmx ?_ (fun _ _ h => h))
                  obtain ⟨Wd, hWd⟩ : ∃ X, wr.drew = X := ⟨_, rfl⟩
                  rw [hWd] at U0 ⊢
                  clear hWd
                  refine wpAnyH_take (i := 0) (v := .slice (some ⟨g2, o2, none⟩) m2 c2) (lit rfl) (by kernel_rfl) (by kernel_rfl) (by kernel_rfl) (fun _ _ _ h => h) (Or.inl ⟨by rfl, ?_⟩) U0 ?_
                  · rintro w6 hb6
                    go_simp
                  simp only [Act.put, List.setIfInBounds_toArray, List.set_cons_zero, List.set_cons_succ]
                  refine wpAnyH_take (i := 1) (v := .int .i64 (j : Int)) (lit rfl) (by kernel_rfl) (by kernel_rfl) (by kernel_rfl) (fun _ _ _ h => h) (Or.inl ⟨by rfl, ?_⟩) U0 ?_
                  · rintro w6 hb6
                    go_simp
                  simp only [Act.put, List.setIfInBounds_toArray, List.set_cons_zero, List.set_cons_succ]
                  refine wpAnyH_take (i := 2) (v := .pointer (some ⟨g2, o2 + j * 4, none⟩)) (lit rfl) (by kernel_rfl) (by kernel_rfl) (by kernel_rfl) (fun _ _ _ h => h) (Or.inl ⟨by rfl, ?_⟩) U0 ?_
                  · rintro w6 hb6
                    go_simp
                  simp only [Act.put, List.setIfInBounds_toArray, List.set_cons_zero, List.set_cons_succ]
                  refine wpAnyH_take (i := 3) (v := .pointer (some ⟨g2, o2 + j * 4, none⟩)) (lit rfl) (by kernel_rfl) (by kernel_rfl) (by kernel_rfl) (fun _ _ _ h => h) (Or.inl ⟨by rfl, ?_⟩) U0 ?_
                  · rintro w6 hb6
                    go_simp
                  simp only [Act.put, List.setIfInBounds_toArray, List.set_cons_zero, List.set_cons_succ]
                  refine wpAnyH_take (i := 4) (v := .string sk) (lit rfl) (by kernel_rfl) (by kernel_rfl) (by kernel_rfl) (fun _ _ _ h => h) (Or.inl ⟨by rfl, ?_⟩) U0 ?_
                  · rintro w6 hb6
                    obtain ⟨y60, y61⟩ := HX2.out w6 hb6
                    go_simp
                  simp only [Act.put, List.setIfInBounds_toArray, List.set_cons_zero, List.set_cons_succ]
                  refine wpAnyH_take (i := 5) (v := .slice (some ⟨gl, offl, none⟩) n c) (lit rfl) (by kernel_rfl) (by kernel_rfl) (by kernel_rfl) (fun _ _ _ h => h) (Or.inl ⟨by rfl, ?_⟩) U0 ?_
                  · rintro w6 hb6
                    go_simp
                  simp only [Act.put, List.setIfInBounds_toArray, List.set_cons_zero, List.set_cons_succ]
                  refine wpAnyH_take (i := 6) (v := .int .i64 (k : Int)) (lit rfl) (by kernel_rfl) (by kernel_rfl) (by kernel_rfl) (fun _ _ _ h => h) (Or.inl ⟨by rfl, ?_⟩) U0 ?_
                  · rintro w6 hb6
                    go_simp
                  simp only [Act.put, List.setIfInBounds_toArray, List.set_cons_zero, List.set_cons_succ]
                  refine wpAnyH_take (i := 7) (v := .pointer (some ⟨gl, offl + k * 3, none⟩)) (lit rfl) (by kernel_rfl) (by kernel_rfl) (by kernel_rfl) (fun _ _ _ h => h) (Or.inl ⟨by rfl, ?_⟩) U0 ?_
                  · rintro w6 hb6
                    go_simp
                  simp only [Act.put, List.setIfInBounds_toArray, List.set_cons_zero, List.set_cons_succ]
                  refine wpAnyH_take (i := 8) (v := .pointer (some ⟨gl, offl + k * 3, none⟩)) (lit rfl) (by kernel_rfl) (by kernel_rfl) (by kernel_rfl) (fun _ _ _ h => h) (Or.inl ⟨by rfl, ?_⟩) U0 ?_
                  · rintro w6 hb6
                    go_simp
                  simp only [Act.put, List.setIfInBounds_toArray, List.set_cons_zero, List.set_cons_succ]
                  refine wpAnyH_take (i := 9) (v := .string sk) (lit rfl) (by kernel_rfl) (by kernel_rfl) (by kernel_rfl) (fun _ _ _ h => h) (Or.inl ⟨by rfl, ?_⟩) U0 ?_
                  · rintro w6 hb6
                    obtain ⟨y60, y61, y62⟩ := HLI.out w6 hb6
                    go_simp
                  simp only [Act.put, List.setIfInBounds_toArray, List.set_cons_zero, List.set_cons_succ]
                  refine wpAnyH_take (i := 10) (v := .bool true) (lit rfl) (by kernel_rfl) (by kernel_rfl) (by kernel_rfl) (fun _ _ _ h => h) (Or.inl ⟨by rfl, ?_⟩) U0 ?_
                  · rintro w6 hb6
                    go_simp
                  simp only [Act.put, List.setIfInBounds_toArray, List.set_cons_zero, List.set_cons_succ]
                  refine wpAnyH_take (i := 11) (v := .bool true) (lit rfl) (by kernel_rfl) (by kernel_rfl) (by kernel_rfl) (fun _ _ _ h => h) (Or.inl ⟨by rfl, ?_⟩) U0 ?_
                  · rintro w6 hb6
                    go_simp
                  simp only [Act.put, List.setIfInBounds_toArray, List.set_cons_zero, List.set_cons_succ]
                  refine wpAnyH_done (by kernel_rfl) ?_ _
                  refine hK _ _ ?_
                  have U1 : Below w9.heap.size w9 Wd.drew := U0.drew
                  go_wp2
                  first | (rename_i K hK; refine wp_held (fun w6 : World => Below w9.heap.size w9 w6) K hmx ?_ (fun _ _ h => h)) | (rename_i K hK hz; refine wp_held (fun w6 : World => Below w9.heap.size w9 w6) K hmx ?_ (fun _ _ h => h))
                  obtain ⟨We, hWd⟩ : ∃ X, Wd.drew = X := ⟨_, rfl⟩
                  rw [hWd] at U1 ⊢
                  clear hWd
                  refine wpAnyH_take (i := 0) (v := .int .i64 (kk : Int)) (lit rfl) (by kernel_rfl) (by kernel_rfl) (by kernel_rfl) (fun _ _ _ h => h) (Or.inl ⟨by rfl, ?_⟩) U1 ?_
                  · rintro w6 hb6
                    go_simp
                  simp only [Act.put, List.setIfInBounds_toArray, List.set_cons_zero, List.set_cons_succ]
                  refine wpAnyH_take (i := 1) (v := .slice A1 m1 c1) (lit rfl) (by kernel_rfl) (by kernel_rfl) (by kernel_rfl) (fun _ _ _ h => h) (Or.inl ⟨by rfl, ?_⟩) U1 ?_
                  · rintro w6 hb6
                    go_simp
                  simp only [Act.put, List.setIfInBounds_toArray, List.set_cons_zero, List.set_cons_succ]
                  refine wpAnyH_take (i := 2) (v := .int .i64 (m1 : Int)) (lit rfl) (by kernel_rfl) (by kernel_rfl) (by kernel_rfl) (fun _ _ _ h => h) (Or.inl ⟨by rfl, ?_⟩) U1 ?_
                  · rintro w6 hb6
                    go_simp
                  simp only [Act.put, List.setIfInBounds_toArray, List.set_cons_zero, List.set_cons_succ]
                  refine wpAnyH_take (i := 3) (v := .bool false) (lit rfl) (by kernel_rfl) (by kernel_rfl) (by kernel_rfl) (fun _ _ _ h => h) (Or.inl ⟨by rfl, ?_⟩) U1 ?_
                  · rintro w6 hb6
                    go_simp
                  simp only [Act.put, List.setIfInBounds_toArray, List.set_cons_zero, List.set_cons_succ]
                  refine wpAnyH_take (i := 4) (v := .bool false) (lit rfl) (by kernel_rfl) (by kernel_rfl) (by kernel_rfl) (fun _ _ _ h => h) (Or.inl ⟨by rfl, ?_⟩) U1 ?_
                  · rintro w6 hb6
                    go_simp
                  simp only [Act.put, List.setIfInBounds_toArray, List.set_cons_zero, List.set_cons_succ]
                  refine wpAnyH_take (i := 5) (v := undef) (lit rfl) (by kernel_rfl) (by kernel_rfl) (by kernel_rfl) (fun _ _ _ h => h) (Or.inr ⟨by rfl, rfl⟩) U1 ?_
                  simp only [Act.put, List.setIfInBounds_toArray, List.set_cons_zero, List.set_cons_succ]
                  refine wpAnyH_take (i := 6) (v := undef) (lit rfl) (by kernel_rfl) (by kernel_rfl) (by kernel_rfl) (fun _ _ _ h => h) (Or.inr ⟨by rfl, rfl⟩) U1 ?_
                  simp only [Act.put, List.setIfInBounds_toArray, List.set_cons_zero, List.set_cons_succ]
                  refine wpAnyH_take (i := 7) (v := undef) (lit rfl) (by kernel_rfl) (by kernel_rfl) (by kernel_rfl) (fun _ _ _ h => h) (Or.inr ⟨by rfl, rfl⟩) U1 ?_
                  simp only [Act.put, List.setIfInBounds_toArray, List.set_cons_zero, List.set_cons_succ]
                  refine wpAnyH_take (i := 8) (v := undef) (lit rfl) (by kernel_rfl) (by kernel_rfl) (by kernel_rfl) (fun _ _ _ h => h) (Or.inr ⟨by rfl, rfl⟩) U1 ?_
                  simp only [Act.put, List.setIfInBounds_toArray, List.set_cons_zero, List.set_cons_succ]
                  refine wpAnyH_take (i := 9) (v := undef) (lit rfl) (by kernel_rfl) (by kernel_rfl) (by kernel_rfl) (fun _ _ _ h => h) (Or.inr ⟨by rfl, rfl⟩) U1 ?_
                  simp only [Act.put, List.setIfInBounds_toArray, List.set_cons_zero, List.set_cons_succ]
                  refine wpAnyH_take (i := 10) (v := undef) (lit rfl) (by kernel_rfl) (by kernel_rfl) (by kernel_rfl) (fun _ _ _ h => h) (Or.inr ⟨by rfl, rfl⟩) U1 ?_
                  simp only [Act.put, List.setIfInBounds_toArray, List.set_cons_zero, List.set_cons_succ]
                  refine wpAnyH_take (i := 11) (v := undef) (lit rfl) (by kernel_rfl) (by kernel_rfl) (by kernel_rfl) (fun _ _ _ h => h) (Or.inr ⟨by rfl, rfl⟩) U1 ?_
                  simp only [Act.put, List.setIfInBounds_toArray, List.set_cons_zero, List.set_cons_succ]
                  refine wpAnyH_take (i := 12) (v := undef) (lit rfl) (by kernel_rfl) (by kernel_rfl) (by kernel_rfl) (fun _ _ _ h => h) (Or.inr ⟨by rfl, rfl⟩) U1 ?_
                  simp only [Act.put, List.setIfInBounds_toArray, List.set_cons_zero, List.set_cons_succ]
                  refine wpAnyH_take (i := 13) (v := undef) (lit rfl) (by kernel_rfl) (by kernel_rfl) (by kernel_rfl) (fun _ _ _ h => h) (Or.inr ⟨by rfl, rfl⟩) U1 ?_
                  simp only [Act.put, List.setIfInBounds_toArray, List.set_cons_zero, List.set_cons_succ]
                  refine wpAnyH_take (i := 14) (v := undef) (lit rfl) (by kernel_rfl) (by kernel_rfl) (by kernel_rfl) (fun _ _ _ h => h) (Or.inr ⟨by rfl, rfl⟩) U1 ?_
                  simp only [Act.put, List.setIfInBounds_toArray, List.set_cons_zero, List.set_cons_succ]
                  refine wpAnyH_take (i := 15) (v := undef) (lit rfl) (by kernel_rfl) (by kernel_rfl) (by kernel_rfl) (fun _ _ _ h => h) (Or.inr ⟨by rfl, rfl⟩) U1 ?_
                  simp only [Act.put, List.setIfInBounds_toArray, List.set_cons_zero, List.set_cons_succ]
                  refine wpAnyH_take (i := 16) (v := .bool false) (lit rfl) (by kernel_rfl) (by kernel_rfl) (by kernel_rfl) (fun _ _ _ h => h) (Or.inl ⟨by rfl, ?_⟩) U1 ?_
                  · rintro w6 hb6
                    go_simp
                  simp only [Act.put, List.setIfInBounds_toArray, List.set_cons_zero, List.set_cons_succ]
                  refine wpAnyH_take (i := 17) (v := .bool false) (lit rfl) (by kernel_rfl) (by kernel_rfl) (by kernel_rfl) (fun _ _ _ h => h) (Or.inl ⟨by rfl, ?_⟩) U1 ?_
                  · rintro w6 hb6
                    go_simp
                  simp only [Act.put, List.setIfInBounds_toArray, List.set_cons_zero, List.set_cons_succ]
                  refine wpAnyH_done (by kernel_rfl) ?_ _
                  refine hK _ _ ?_
                  have U2 : Below w9.heap.size w9 We.drew := U1.drew
                  go_wp2
                  first | (rename_i K hK; refine wp_held (fun w6 : World => Below w9.heap.size w9 w6) K hmx ?_ (fun _ _ h => h)) | (rename_i K hK hz; refine wp_held (fun w6 : World => Below w9.heap.size w9 w6) K hmx ?_ (fun _ _ h => h))
                  obtain ⟨Wf, hWd⟩ : ∃ X, We.drew = X := ⟨_, rfl⟩
                  rw [hWd] at U2 ⊢
                  clear hWd
                  refine wpAnyH_take (i := 0) (v := .int .i64 (j : Int)) (lit rfl) (by kernel_rfl) (by kernel_rfl) (by kernel_rfl) (fun _ _ _ h => h) (Or.inl ⟨by rfl, ?_⟩) U2 ?_
                  · rintro w6 hb6
                    go_simp
                  simp only [Act.put, List.setIfInBounds_toArray, List.set_cons_zero, List.set_cons_succ]
                  refine wpAnyH_take (i := 1) (v := .bool true) (lit rfl) (by kernel_rfl) (by kernel_rfl) (by kernel_rfl) (fun _ _ _ h => h) (Or.inl ⟨by rfl, ?_⟩) U2 ?_
                  · rintro w6 hb6
                    go_simp
                    all_goals exact HJP.out
                  simp only [Act.put, List.setIfInBounds_toArray, List.set_cons_zero, List.set_cons_succ]
                  refine wpAnyH_take (i := 2) (v := .bool true) (lit rfl) (by kernel_rfl) (by kernel_rfl) (by kernel_rfl) (fun _ _ _ h => h) (Or.inl ⟨by rfl, ?_⟩) U2 ?_
                  · rintro w6 hb6
                    go_simp
                  simp only [Act.put, List.setIfInBounds_toArray, List.set_cons_zero, List.set_cons_succ]
                  refine wpAnyH_take (i := 3) (v := .slice (some ⟨g2, o2, none⟩) m2 c2) (lit rfl) (by kernel_rfl) (by kernel_rfl) (by kernel_rfl) (fun _ _ _ h => h) (Or.inl ⟨by rfl, ?_⟩) U2 ?_
                  · rintro w6 hb6
                    go_simp
                  simp only [Act.put, List.setIfInBounds_toArray, List.set_cons_zero, List.set_cons_succ]
                  refine wpAnyH_take (i := 4) (v := .int .i64 (j : Int)) (lit rfl) (by kernel_rfl) (by kernel_rfl) (by kernel_rfl) (fun _ _ _ h => h) (Or.inl ⟨by rfl, ?_⟩) U2 ?_
                  · rintro w6 hb6
                    go_simp
                  simp only [Act.put, List.setIfInBounds_toArray, List.set_cons_zero, List.set_cons_succ]
                  refine wpAnyH_take (i := 5) (v := .pointer (some ⟨g2, o2 + j * 4, none⟩)) (lit rfl) (by kernel_rfl) (by kernel_rfl) (by kernel_rfl) (fun _ _ _ h => h) (Or.inl ⟨by rfl, ?_⟩) U2 ?_
                  · rintro w6 hb6
                    go_simp
                  simp only [Act.put, List.setIfInBounds_toArray, List.set_cons_zero, List.set_cons_succ]
                  refine wpAnyH_take (i := 6) (v := .pointer (some ⟨g2, o2 + j * 4, none⟩)) (lit rfl) (by kernel_rfl) (by kernel_rfl) (by kernel_rfl) (fun _ _ _ h => h) (Or.inl ⟨by rfl, ?_⟩) U2 ?_
                  · rintro w6 hb6
                    go_simp
                  simp only [Act.put, List.setIfInBounds_toArray, List.set_cons_zero, List.set_cons_succ]
                  refine wpAnyH_take (i := 7) (v := .string sk) (lit rfl) (by kernel_rfl) (by kernel_rfl) (by kernel_rfl) (fun _ _ _ h => h) (Or.inl ⟨by rfl, ?_⟩) U2 ?_
                  · rintro w6 hb6
                    obtain ⟨y60, y61⟩ := HX2.out w6 hb6
                    go_simp
                  simp only [Act.put, List.setIfInBounds_toArray, List.set_cons_zero, List.set_cons_succ]
                  refine wpAnyH_take (i := 8) (v := .slice (some ⟨g2, o2, none⟩) m2 c2) (lit rfl) (by kernel_rfl) (by kernel_rfl) (by kernel_rfl) (fun _ _ _ h => h) (Or.inl ⟨by rfl, ?_⟩) U2 ?_
                  · rintro w6 hb6
                    go_simp
                  simp only [Act.put, List.setIfInBounds_toArray, List.set_cons_zero, List.set_cons_succ]
                  refine wpAnyH_take (i := 9) (v := .int .i64 (j : Int)) (lit rfl) (by kernel_rfl) (by kernel_rfl) (by kernel_rfl) (fun _ _ _ h => h) (Or.inl ⟨by rfl, ?_⟩) U2 ?_
                  · rintro w6 hb6
                    go_simp
                  simp only [Act.put, List.setIfInBounds_toArray, List.set_cons_zero, List.set_cons_succ]
                  refine wpAnyH_take (i := 10) (v := .int .i64 (jj : Int)) (lit rfl) (by kernel_rfl) (by kernel_rfl) (by kernel_rfl) (fun _ _ _ h => h) (Or.inl ⟨by rfl, ?_⟩) U2 ?_
                  · rintro w6 hb6
                    go_simp
                  simp only [Act.put, List.setIfInBounds_toArray, List.set_cons_zero, List.set_cons_succ]
                  refine wpAnyH_take (i := 11) (v := .pointer (some ⟨g2, o2 + jj * 4, none⟩)) (lit rfl) (by kernel_rfl) (by kernel_rfl) (by kernel_rfl) (fun _ _ _ h => h) (Or.inl ⟨by rfl, ?_⟩) U2 ?_
                  · rintro w6 hb6
                    go_simp
                  simp only [Act.put, List.setIfInBounds_toArray, List.set_cons_zero, List.set_cons_succ]
                  refine wpAnyH_take (i := 12) (v := .pointer (some ⟨g2, o2 + jj * 4, none⟩)) (lit rfl) (by kernel_rfl) (by kernel_rfl) (by kernel_rfl) (fun _ _ _ h => h) (Or.inl ⟨by rfl, ?_⟩) U2 ?_
                  · rintro w6 hb6
                    go_simp
                  simp only [Act.put, List.setIfInBounds_toArray, List.set_cons_zero, List.set_cons_succ]
                  refine wpAnyH_take (i := 13) (v := .string s3) (lit rfl) (by kernel_rfl) (by kernel_rfl) (by kernel_rfl) (fun _ _ _ h => h) (Or.inl ⟨by rfl, ?_⟩) U2 ?_
                  · rintro w6 hb6
                    obtain ⟨y60, y61⟩ := HX3.out w6 hb6
                    go_simp
                  simp only [Act.put, List.setIfInBounds_toArray, List.set_cons_zero, List.set_cons_succ]
                  refine wpAnyH_take (i := 14) (v := .bool false) (lit rfl) (by kernel_rfl) (by kernel_rfl) (by kernel_rfl) (fun _ _ _ h => h) (Or.inl ⟨by rfl, ?_⟩) U2 ?_
                  · rintro w6 hb6
                    go_simp
                  simp only [Act.put, List.setIfInBounds_toArray, List.set_cons_zero, List.set_cons_succ]
                  refine wpAnyH_take (i := 15) (v := .bool false) (lit rfl) (by kernel_rfl) (by kernel_rfl) (by kernel_rfl) (fun _ _ _ h => h) (Or.inl ⟨by rfl, ?_⟩) U2 ?_
                  · rintro w6 hb6
                    go_simp
                  simp only [Act.put, List.setIfInBounds_toArray, List.set_cons_zero, List.set_cons_succ]
                  refine wpAnyH_take (i := 16) (v := .bool false) (lit rfl) (by kernel_rfl) (by kernel_rfl) (by kernel_rfl) (fun _ _ _ h => h) (Or.inl ⟨by rfl, ?_⟩) U2 ?_
                  · rintro w6 hb6
                    go_simp
                  simp only [Act.put, List.setIfInBounds_toArray, List.set_cons_zero, List.set_cons_succ]
                  refine wpAnyH_take (i := 17) (v := .bool true) (lit rfl) (by kernel_rfl) (by kernel_rfl) (by kernel_rfl) (fun _ _ _ h => h) (Or.inl ⟨by rfl, ?_⟩) U2 ?_
                  · rintro w6 hb6
                    go_simp
                  simp only [Act.put, List.setIfInBounds_toArray, List.set_cons_zero, List.set_cons_succ]
                  refine wpAnyH_take (i := 18) (v := .bool false) (lit rfl) (by kernel_rfl) (by kernel_rfl) (by kernel_rfl) (fun _ _ _ h => h) (Or.inl ⟨by rfl, ?_⟩) U2 ?_
                  · rintro w6 hb6
                    go_simp
                  simp only [Act.put, List.setIfInBounds_toArray, List.set_cons_zero, List.set_cons_succ]
                  refine wpAnyH_take (i := 19) (v := .bool false) (lit rfl) (by kernel_rfl) (by kernel_rfl) (by kernel_rfl) (fun _ _ _ h => h) (Or.inl ⟨by rfl, ?_⟩) U2 ?_
                  · rintro w6 hb6
                    go_simp
                  simp only [Act.put, List.setIfInBounds_toArray, List.set_cons_zero, List.set_cons_succ]
                  refine wpAnyH_take (i := 20) (v := undef) (lit rfl) (by kernel_rfl) (by kernel_rfl) (by kernel_rfl) (fun _ _ _ h => h) (Or.inr ⟨by rfl, rfl⟩) U2 ?_
                  simp only [Act.put, List.setIfInBounds_toArray, List.set_cons_zero, List.set_cons_succ]
                  refine wpAnyH_take (i := 21) (v := undef) (lit rfl) (by kernel_rfl) (by kernel_rfl) (by kernel_rfl) (fun _ _ _ h => h) (Or.inr ⟨by rfl, rfl⟩) U2 ?_
                  simp only [Act.put, List.setIfInBounds_toArray, List.set_cons_zero, List.set_cons_succ]
                  refine wpAnyH_take (i := 22) (v := undef) (lit rfl) (by kernel_rfl) (by kernel_rfl) (by kernel_rfl) (fun _ _ _ h => h) (Or.inr ⟨by rfl, rfl⟩) U2 ?_
                  simp only [Act.put, List.setIfInBounds_toArray, List.set_cons_zero, List.set_cons_succ]
                  refine wpAnyH_take (i := 23) (v := undef) (lit rfl) (by kernel_rfl) (by kernel_rfl) (by kernel_rfl) (fun _ _ _ h => h) (Or.inr ⟨by rfl, rfl⟩) U2 ?_
                  simp only [Act.put, List.setIfInBounds_toArray, List.set_cons_zero, List.set_cons_succ]
                  refine wpAnyH_take (i := 24) (v := undef) (lit rfl) (by kernel_rfl) (by kernel_rfl) (by kernel_rfl) (fun _ _ _ h => h) (Or.inr ⟨by rfl, rfl⟩) U2 ?_
                  simp only [Act.put, List.setIfInBounds_toArray, List.set_cons_zero, List.set_cons_succ]
                  refine wpAnyH_take (i := 25) (v := undef) (lit rfl) (by kernel_rfl) (by kernel_rfl) (by kernel_rfl) (fun _ _ _ h => h) (Or.inr ⟨by rfl, rfl⟩) U2 ?_
                  simp only [Act.put, List.setIfInBounds_toArray, List.set_cons_zero, List.set_cons_succ]
                  refine wpAnyH_take (i := 26) (v := undef) (lit rfl) (by kernel_rfl) (by kernel_rfl) (by kernel_rfl) (fun _ _ _ h => h) (Or.inr ⟨by rfl, rfl⟩) U2 ?_
                  simp only [Act.put, List.setIfInBounds_toArray, List.set_cons_zero, List.set_cons_succ]
                  refine wpAnyH_take (i := 27) (v := undef) (lit rfl) (by kernel_rfl) (by kernel_rfl) (by kernel_rfl) (fun _ _ _ h => h) (Or.inr ⟨by rfl, rfl⟩) U2 ?_
                  simp only [Act.put, List.setIfInBounds_toArray, List.set_cons_zero, List.set_cons_succ]
                  refine wpAnyH_take (i := 28) (v := undef) (lit rfl) (by kernel_rfl) (by kernel_rfl) (by kernel_rfl) (fun _ _ _ h => h) (Or.inr ⟨by rfl, rfl⟩) U2 ?_
                  simp only [Act.put, List.setIfInBounds_toArray, List.set_cons_zero, List.set_cons_succ]
                  refine wpAnyH_take (i := 29) (v := undef) (lit rfl) (by kernel_rfl) (by kernel_rfl) (by kernel_rfl) (fun _ _ _ h => h) (Or.inr ⟨by rfl, rfl⟩) U2 ?_
                  simp only [Act.put, List.setIfInBounds_toArray, List.set_cons_zero, List.set_cons_succ]
                  refine wpAnyH_take (i := 30) (v := undef) (lit rfl) (by kernel_rfl) (by kernel_rfl) (by kernel_rfl) (fun _ _ _ h => h) (Or.inr ⟨by rfl, rfl⟩) U2 ?_
                  simp only [Act.put, List.setIfInBounds_toArray, List.set_cons_zero, List.set_cons_succ]
                  refine wpAnyH_take (i := 31) (v := undef) (lit rfl) (by kernel_rfl) (by kernel_rfl) (by kernel_rfl) (fun _ _ _ h => h) (Or.inr ⟨by rfl, rfl⟩) U2 ?_
                  simp only [Act.put, List.setIfInBounds_toArray, List.set_cons_zero, List.set_cons_succ]
                  refine wpAnyH_take (i := 32) (v := undef) (lit rfl) (by kernel_rfl) (by kernel_rfl) (by kernel_rfl) (fun _ _ _ h => h) (Or.inr ⟨by rfl, rfl⟩) U2 ?_
                  simp only [Act.put, List.setIfInBounds_toArray, List.set_cons_zero, List.set_cons_succ]
                  refine wpAnyH_take (i := 33) (v := undef) (lit rfl) (by kernel_rfl) (by kernel_rfl) (by kernel_rfl) (fun _ _ _ h => h) (Or.inr ⟨by rfl, rfl⟩) U2 ?_
                  simp only [Act.put, List.setIfInBounds_toArray, List.set_cons_zero, List.set_cons_succ]
                  refine wpAnyH_take (i := 34) (v := undef) (lit rfl) (by kernel_rfl) (by kernel_rfl) (by kernel_rfl) (fun _ _ _ h => h) (Or.inr ⟨by rfl, rfl⟩) U2 ?_
                  simp only [Act.put, List.setIfInBounds_toArray, List.set_cons_zero, List.set_cons_succ]
                  refine wpAnyH_take (i := 35) (v := undef) (lit rfl) (by kernel_rfl) (by kernel_rfl) (by kernel_rfl) (fun _ _ _ h => h) (Or.inr ⟨by rfl, rfl⟩) U2 ?_
                  simp only [Act.put, List.setIfInBounds_toArray, List.set_cons_zero, List.set_cons_succ]
                  refine wpAnyH_take (i := 36) (v := undef) (lit rfl) (by kernel_rfl) (by kernel_rfl) (by kernel_rfl) (fun _ _ _ h => h) (Or.inr ⟨by rfl, rfl⟩) U2 ?_
                  simp only [Act.put, List.setIfInBounds_toArray, List.set_cons_zero, List.set_cons_succ]
                  refine wpAnyH_take (i := 37) (v := .bool false) (lit rfl) (by kernel_rfl) (by kernel_rfl) (by kernel_rfl) (fun _ _ _ h => h) (Or.inl ⟨by rfl, ?_⟩) U2 ?_
                  · rintro w6 hb6
                    go_simp
                  simp only [Act.put, List.setIfInBounds_toArray, List.set_cons_zero, List.set_cons_succ]
                  refine wpAnyH_take (i := 38) (v := .bool false) (lit rfl) (by kernel_rfl) (by kernel_rfl) (by kernel_rfl) (fun _ _ _ h => h) (Or.inl ⟨by rfl, ?_⟩) U2 ?_
                  · rintro w6 hb6
                    go_simp
                  simp only [Act.put, List.setIfInBounds_toArray, List.set_cons_zero, List.set_cons_succ]
                  refine wpAnyH_done (by kernel_rfl) ?_ _
                  refine hK _ _ ?_
                  have hnx := HNF.out
                  go_wp2
                  go_roundw
                  case rel => exact ⟨j + 1, by omega, by go_num, (by rw [hnx]; try go_num), U2⟩
                  case measure => simp [intOf]; omega
            · have hold := HPS.out.old j hjp
              rw [show (if ins = true ∧ p < j then j - 1 else j) = kk from hkk2, hx2] at hold
              have hkm : kk < m1 := by have h1 := (List.getElem?_eq_some_iff.1 hold).1; have h2 := HM1.out; omega
              obtain ⟨g1, o1, rfl, _, _⟩ := ents_cell HR1.out hold
              obtain ⟨s2, hs2⟩ : ∃ s : ByteArray, (⟨x2.1.toArray⟩ : ByteArray) = s := ⟨_, rfl⟩
              obtain ⟨d2, hd2⟩ : ∃ s : ByteArray, (⟨x2.2.toArray⟩ : ByteArray) = s := ⟨_, rfl⟩
              have H2L : Hid (s2.toList = x2.1) := Lib.hid (by rw [← hs2]; exact Go.ByteArray.toList_mk _)
              have hnown : (s2.toList == sk.toList) = false := by
                rw [H2L.out, HSKL.out]
                exact beq_eq_false_iff_ne.2 (fun e => hjp ((HPS.out.own j x2 hx2).1 e))
              have HX1 : Hid (∀ w6 : World, Below w9.heap.size w9 w6 → w6.cell? ⟨g1, o1 + kk * 4, none⟩ = some (.string s2) ∧ w6.cell? ⟨g1, o1 + kk * 4 + 1, none⟩ = some (.string d2)) := Lib.hid (HX1I.out g1 o1 kk x2 s2 d2 rfl hold hs2 hd2)
              have HX2 : Hid (∀ w6 : World, Below w9.heap.size w9 w6 → w6.cell? ⟨g2, o2 + j * 4, none⟩ = some (.string s2) ∧ w6.cell? ⟨g2, o2 + j * 4 + 1, none⟩ = some (.string d2)) := Lib.hid (hd2 ▸ HX3I.out g2 o2 j x2 s2 rfl hx2 hs2)
              have HNX : Hid (kofE ins p (j + 1) = kk + 1) := Lib.hid (by rw [kof_step hjp, hkk2])
              have kk1 : (kk : Int) < (m1 : Int) := by omega
              clear c20 c21 hs2 hd2 hold hb hx2 hkk2
              rcases Nat.eq_zero_or_pos j with hz | hz
              · have jp : ¬ (0 : Int) < (j : Int) := by omega
                have HJP : Hid (j = 0) := Lib.hid hz
                clear hz hjp
                go_wp2
                first | (rename_i K hK; refine wp_held (fun w6 : World => Below w9.heap.size w9 w6) K hmx ?_ (fun _ _ h => h)) | (rename_i K hK hz; refine wp_held (fun w6 : World => Below w9.heap.size w9 w6) K hmx ?_ (fun _ _ h => h))
                obtain ⟨Wd, hWd⟩ : ∃ X, wr.drew = X := ⟨_, rfl⟩
                rw [hWd] at U0 ⊢
                clear hWd
                refine wpAnyH_take (i := 0) (v := .slice (some ⟨g2, o2, none⟩) m2 c2) (lit rfl) (by kernel_rfl) (by kernel_rfl) (by kernel_rfl) (fun _ _ _ h => h) (Or.inl ⟨by rfl, ?_⟩) U0 ?_
                · rintro w6 hb6
                  go_simp
                simp only [Act.put, List.setIfInBounds_toArray, List.set_cons_zero, List.set_cons_succ]
                refine wpAnyH_take (i := 1) (v := .int .i64 (j : Int)) (lit rfl) (by kernel_rfl) (by kernel_rfl) (by kernel_rfl) (fun _ _ _ h => h) (Or.inl ⟨by rfl, ?_⟩) U0 ?_
                · rintro w6 hb6
                  go_simp
                simp only [Act.put, List.setIfInBounds_toArray, List.set_cons_zero, List.set_cons_succ]
                refine wpAnyH_take (i := 2) (v := .pointer (some ⟨g2, o2 + j * 4, none⟩)) (lit rfl) (by kernel_rfl) (by kernel_rfl) (by kernel_rfl) (fun _ _ _ h => h) (Or.inl ⟨by rfl, ?_⟩) U0 ?_
                · rintro w6 hb6
                  go_simp
                simp only [Act.put, List.setIfInBounds_toArray, List.set_cons_zero, List.set_cons_succ]
                refine wpAnyH_take (i := 3) (v := .pointer (some ⟨g2, o2 + j * 4, none⟩)) (lit rfl) (by kernel_rfl) (by kernel_rfl) (by kernel_rfl) (fun _ _ _ h => h) (Or.inl ⟨by rfl, ?_⟩) U0 ?_
                · rintro w6 hb6
                  go_simp
                simp only [Act.put, List.setIfInBounds_toArray, List.set_cons_zero, List.set_cons_succ]
                refine wpAnyH_take (i := 4) (v := .string s2) (lit rfl) (by kernel_rfl) (by kernel_rfl) (by kernel_rfl) (fun _ _ _ h => h) (Or.inl ⟨by rfl, ?_⟩) U0 ?_
                · rintro w6 hb6
                  obtain ⟨y60, y61⟩ := HX2.out w6 hb6
                  go_simp
                simp only [Act.put, List.setIfInBounds_toArray, List.set_cons_zero, List.set_cons_succ]
                refine wpAnyH_take (i := 5) (v := .slice (some ⟨gl, offl, none⟩) n c) (lit rfl) (by kernel_rfl) (by kernel_rfl) (by kernel_rfl) (fun _ _ _ h => h) (Or.inl ⟨by rfl, ?_⟩) U0 ?_
                · rintro w6 hb6
                  go_simp
                simp only [Act.put, List.setIfInBounds_toArray, List.set_cons_zero, List.set_cons_succ]
                refine wpAnyH_take (i := 6) (v := .int .i64 (k : Int)) (lit rfl) (by kernel_rfl) (by kernel_rfl) (by kernel_rfl) (fun _ _ _ h => h) (Or.inl ⟨by rfl, ?_⟩) U0 ?_
                · rintro w6 hb6
                  go_simp
                simp only [Act.put, List.setIfInBounds_toArray, List.set_cons_zero, List.set_cons_succ]
                refine wpAnyH_take (i := 7) (v := .pointer (some ⟨gl, offl + k * 3, none⟩)) (lit rfl) (by kernel_rfl) (by kernel_rfl) (by kernel_rfl) (fun _ _ _ h => h) (Or.inl ⟨by rfl, ?_⟩) U0 ?_
                · rintro w6 hb6
                  go_simp
                simp only [Act.put, List.setIfInBounds_toArray, List.set_cons_zero, List.set_cons_succ]
                refine wpAnyH_take (i := 8) (v := .pointer (some ⟨gl, offl + k * 3, none⟩)) (lit rfl) (by kernel_rfl) (by kernel_rfl) (by kernel_rfl) (fun _ _ _ h => h) (Or.inl ⟨by rfl, ?_⟩) U0 ?_
                · rintro w6 hb6
                  go_simp
                simp only [Act.put, List.setIfInBounds_toArray, List.set_cons_zero, List.set_cons_succ]
                refine wpAnyH_take (i := 9) (v := .string sk) (lit rfl) (by kernel_rfl) (by kernel_rfl) (by kernel_rfl) (fun _ _ _ h => h) (Or.inl ⟨by rfl, ?_⟩) U0 ?_
                · rintro w6 hb6
                  obtain ⟨y60, y61, y62⟩ := HLI.out w6 hb6
                  go_simp
                simp only [Act.put, List.setIfInBounds_toArray, List.set_cons_zero, List.set_cons_succ]
                refine wpAnyH_take (i := 10) (v := .bool false) (lit rfl) (by kernel_rfl) (by kernel_rfl) (by kernel_rfl) (fun _ _ _ h => h) (Or.inl ⟨by rfl, ?_⟩) U0 ?_
                · rintro w6 hb6
                  go_simp
                simp only [Act.put, List.setIfInBounds_toArray, List.set_cons_zero, List.set_cons_succ]
                refine wpAnyH_take (i := 11) (v := .bool false) (lit rfl) (by kernel_rfl) (by kernel_rfl) (by kernel_rfl) (fun _ _ _ h => h) (Or.inl ⟨by rfl, ?_⟩) U0 ?_
                · rintro w6 hb6
                  go_simp
                simp only [Act.put, List.setIfInBounds_toArray, List.set_cons_zero, List.set_cons_succ]
                refine wpAnyH_done (by kernel_rfl) ?_ _
                refine hK _ _ ?_
                have U1 : Below w9.heap.size w9 Wd.drew := U0.drew
                go_wp2
                first | (rename_i K hK; refine wp_held (fun w6 : World => Below w9.heap.size w9 w6) K hmx ?_ (fun _ _ h => h)) | (rename_i K hK hz; refine wp_held (fun w6 : World => Below w9.heap.size w9 w6) K hmx ?_ (fun _ _ h => h))
                obtain ⟨We, hWd⟩ : ∃ X, Wd.drew = X := ⟨_, rfl⟩
                rw [hWd] at U1 ⊢
                clear hWd
                refine wpAnyH_take (i := 0) (v := .int .i64 (kk : Int)) (lit rfl) (by kernel_rfl) (by kernel_rfl) (by kernel_rfl) (fun _ _ _ h => h) (Or.inl ⟨by rfl, ?_⟩) U1 ?_
                · rintro w6 hb6
                  go_simp
                simp only [Act.put, List.setIfInBounds_toArray, List.set_cons_zero, List.set_cons_succ]
                refine wpAnyH_take (i := 1) (v := .slice (some ⟨g1, o1, none⟩) m1 c1) (lit rfl) (by kernel_rfl) (by kernel_rfl) (by kernel_rfl) (fun _ _ _ h => h) (Or.inl ⟨by rfl, ?_⟩) U1 ?_
                · rintro w6 hb6
                  go_simp
                simp only [Act.put, List.setIfInBounds_toArray, List.set_cons_zero, List.set_cons_succ]
                refine wpAnyH_take (i := 2) (v := .int .i64 (m1 : Int)) (lit rfl) (by kernel_rfl) (by kernel_rfl) (by kernel_rfl) (fun _ _ _ h => h) (Or.inl ⟨by rfl, ?_⟩) U1 ?_
                · rintro w6 hb6
                  go_simp
                simp only [Act.put, List.setIfInBounds_toArray, List.set_cons_zero, List.set_cons_succ]
                refine wpAnyH_take (i := 3) (v := .bool true) (lit rfl) (by kernel_rfl) (by kernel_rfl) (by kernel_rfl) (fun _ _ _ h => h) (Or.inl ⟨by rfl, ?_⟩) U1 ?_
                · rintro w6 hb6
                  go_simp
                simp only [Act.put, List.setIfInBounds_toArray, List.set_cons_zero, List.set_cons_succ]
                refine wpAnyH_take (i := 4) (v := .bool true) (lit rfl) (by kernel_rfl) (by kernel_rfl) (by kernel_rfl) (fun _ _ _ h => h) (Or.inl ⟨by rfl, ?_⟩) U1 ?_
                · rintro w6 hb6
                  go_simp
                simp only [Act.put, List.setIfInBounds_toArray, List.set_cons_zero, List.set_cons_succ]
                refine wpAnyH_take (i := 5) (v := .slice (some ⟨g1, o1, none⟩) m1 c1) (lit rfl) (by kernel_rfl) (by kernel_rfl) (by kernel_rfl) (fun _ _ _ h => h) (Or.inl ⟨by rfl, ?_⟩) U1 ?_
                · rintro w6 hb6
                  go_simp
                simp only [Act.put, List.setIfInBounds_toArray, List.set_cons_zero, List.set_cons_succ]
                refine wpAnyH_take (i := 6) (v := .int .i64 (kk : Int)) (lit rfl) (by kernel_rfl) (by kernel_rfl) (by kernel_rfl) (fun _ _ _ h => h) (Or.inl ⟨by rfl, ?_⟩) U1 ?_
                · rintro w6 hb6
                  go_simp
                simp only [Act.put, List.setIfInBounds_toArray, List.set_cons_zero, List.set_cons_succ]
                refine wpAnyH_take (i := 7) (v := .pointer (some ⟨g1, o1 + kk * 4, none⟩)) (lit rfl) (by kernel_rfl) (by kernel_rfl) (by kernel_rfl) (fun _ _ _ h => h) (Or.inl ⟨by rfl, ?_⟩) U1 ?_
                · rintro w6 hb6
                  go_simp
                simp only [Act.put, List.setIfInBounds_toArray, List.set_cons_zero, List.set_cons_succ]
                refine wpAnyH_take (i := 8) (v := .pointer (some ⟨g1, o1 + kk * 4, none⟩)) (lit rfl) (by kernel_rfl) (by kernel_rfl) (by kernel_rfl) (fun _ _ _ h => h) (Or.inl ⟨by rfl, ?_⟩) U1 ?_
                · rintro w6 hb6
                  go_simp
                simp only [Act.put, List.setIfInBounds_toArray, List.set_cons_zero, List.set_cons_succ]
                refine wpAnyH_take (i := 9) (v := .string s2) (lit rfl) (by kernel_rfl) (by kernel_rfl) (by kernel_rfl) (fun _ _ _ h => h) (Or.inl ⟨by rfl, ?_⟩) U1 ?_
                · rintro w6 hb6
                  obtain ⟨y60, y61⟩ := HX1.out w6 hb6
                  go_simp
                simp only [Act.put, List.setIfInBounds_toArray, List.set_cons_zero, List.set_cons_succ]
                refine wpAnyH_take (i := 10) (v := .slice (some ⟨g2, o2, none⟩) m2 c2) (lit rfl) (by kernel_rfl) (by kernel_rfl) (by kernel_rfl) (fun _ _ _ h => h) (Or.inl ⟨by rfl, ?_⟩) U1 ?_
                · rintro w6 hb6
                  go_simp
                simp only [Act.put, List.setIfInBounds_toArray, List.set_cons_zero, List.set_cons_succ]
                refine wpAnyH_take (i := 11) (v := .int .i64 (j : Int)) (lit rfl) (by kernel_rfl) (by kernel_rfl) (by kernel_rfl) (fun _ _ _ h => h) (Or.inl ⟨by rfl, ?_⟩) U1 ?_
                · rintro w6 hb6
                  go_simp
                simp only [Act.put, List.setIfInBounds_toArray, List.set_cons_zero, List.set_cons_succ]
                refine wpAnyH_take (i := 12) (v := .pointer (some ⟨g2, o2 + j * 4, none⟩)) (lit rfl) (by kernel_rfl) (by kernel_rfl) (by kernel_rfl) (fun _ _ _ h => h) (Or.inl ⟨by rfl, ?_⟩) U1 ?_
                · rintro w6 hb6
                  go_simp
                simp only [Act.put, List.setIfInBounds_toArray, List.set_cons_zero, List.set_cons_succ]
                refine wpAnyH_take (i := 13) (v := .pointer (some ⟨g2, o2 + j * 4, none⟩)) (lit rfl) (by kernel_rfl) (by kernel_rfl) (by kernel_rfl) (fun _ _ _ h => h) (Or.inl ⟨by rfl, ?_⟩) U1 ?_
                · rintro w6 hb6
                  go_simp
                simp only [Act.put, List.setIfInBounds_toArray, List.set_cons_zero, List.set_cons_succ]
                refine wpAnyH_take (i := 14) (v := .string s2) (lit rfl) (by kernel_rfl) (by kernel_rfl) (by kernel_rfl) (fun _ _ _ h => h) (Or.inl ⟨by rfl, ?_⟩) U1 ?_
                · rintro w6 hb6
                  obtain ⟨y60, y61⟩ := HX2.out w6 hb6
                  go_simp
                simp only [Act.put, List.setIfInBounds_toArray, List.set_cons_zero, List.set_cons_succ]
                refine wpAnyH_take (i := 15) (v := .bool true) (lit rfl) (by kernel_rfl) (by kernel_rfl) (by kernel_rfl) (fun _ _ _ h => h) (Or.inl ⟨by rfl, ?_⟩) U1 ?_
                · rintro w6 hb6
                  go_simp
                simp only [Act.put, List.setIfInBounds_toArray, List.set_cons_zero, List.set_cons_succ]
                refine wpAnyH_take (i := 16) (v := .bool true) (lit rfl) (by kernel_rfl) (by kernel_rfl) (by kernel_rfl) (fun _ _ _ h => h) (Or.inl ⟨by rfl, ?_⟩) U1 ?_
                · rintro w6 hb6
                  go_simp
                simp only [Act.put, List.setIfInBounds_toArray, List.set_cons_zero, List.set_cons_succ]
                refine wpAnyH_take (i := 17) (v := .bool true) (lit rfl) (by kernel_rfl) (by kernel_rfl) (by kernel_rfl) (fun _ _ _ h => h) (Or.inl ⟨by rfl, ?_⟩) U1 ?_
                · rintro w6 hb6
                  go_simp
                simp only [Act.put, List.setIfInBounds_toArray, List.set_cons_zero, List.set_cons_succ]
                refine wpAnyH_done (by kernel_rfl) ?_ _
                refine hK _ _ ?_
                have U2 : Below w9.heap.size w9 We.drew := U1.drew
                go_wp2
                first | (rename_i K hK; refine wp_held (fun w6 : World => Below w9.heap.size w9 w6) K hmx ?_ (fun _ _ h => h)) | (rename_i K hK hz; refine wp_held (fun w6 : World => Below w9.heap.size w9 w6) K hmx ?_ (fun _ _ h => h))
                obtain ⟨Wf, hWd⟩ : ∃ X, We.drew = X := ⟨_, rfl⟩
                rw [hWd] at U2 ⊢
                clear hWd
                refine wpAnyH_take (i := 0) (v := .int .i64 (j : Int)) (lit rfl) (by kernel_rfl) (by kernel_rfl) (by kernel_rfl) (fun _ _ _ h => h) (Or.inl ⟨by rfl, ?_⟩) U2 ?_
                · rintro w6 hb6
                  go_simp
                simp only [Act.put, List.setIfInBounds_toArray, List.set_cons_zero, List.set_cons_succ]
                refine wpAnyH_take (i := 1) (v := .bool false) (lit rfl) (by kernel_rfl) (by kernel_rfl) (by kernel_rfl) (fun _ _ _ h => h) (Or.inl ⟨by rfl, ?_⟩) U2 ?_
                · rintro w6 hb6
                  go_simp
                  all_goals exact HJP.out
                simp only [Act.put, List.setIfInBounds_toArray, List.set_cons_zero, List.set_cons_succ]
                refine wpAnyH_take (i := 2) (v := .bool false) (lit rfl) (by kernel_rfl) (by kernel_rfl) (by kernel_rfl) (fun _ _ _ h => h) (Or.inl ⟨by rfl, ?_⟩) U2 ?_
                · rintro w6 hb6
                  go_simp
                simp only [Act.put, List.setIfInBounds_toArray, List.set_cons_zero, List.set_cons_succ]
                refine wpAnyH_take (i := 3) (v := undef) (lit rfl) (by kernel_rfl) (by kernel_rfl) (by kernel_rfl) (fun _ _ _ h => h) (Or.inr ⟨by rfl, rfl⟩) U2 ?_
                simp only [Act.put, List.setIfInBounds_toArray, List.set_cons_zero, List.set_cons_succ]
                refine wpAnyH_take (i := 4) (v := undef) (lit rfl) (by kernel_rfl) (by kernel_rfl) (by kernel_rfl) (fun _ _ _ h => h) (Or.inr ⟨by rfl, rfl⟩) U2 ?_
                simp only [Act.put, List.setIfInBounds_toArray, List.set_cons_zero, List.set_cons_succ]
                refine wpAnyH_take (i := 5) (v := undef) (lit rfl) (by kernel_rfl) (by kernel_rfl) (by kernel_rfl) (fun _ _ _ h => h) (Or.inr ⟨by rfl, rfl⟩) U2 ?_
                simp only [Act.put, List.setIfInBounds_toArray, List.set_cons_zero, List.set_cons_succ]
                refine wpAnyH_take (i := 6) (v := undef) (lit rfl) (by kernel_rfl) (by kernel_rfl) (by kernel_rfl) (fun _ _ _ h => h) (Or.inr ⟨by rfl, rfl⟩) U2 ?_
                simp only [Act.put, List.setIfInBounds_toArray, List.set_cons_zero, List.set_cons_succ]
                refine wpAnyH_take (i := 7) (v := undef) (lit rfl) (by kernel_rfl) (by kernel_rfl) (by kernel_rfl) (fun _ _ _ h => h) (Or.inr ⟨by rfl, rfl⟩) U2 ?_
                simp only [Act.put, List.setIfInBounds_toArray, List.set_cons_zero, List.set_cons_succ]
                refine wpAnyH_take (i := 8) (v := undef) (lit rfl) (by kernel_rfl) (by kernel_rfl) (by kernel_rfl) (fun _ _ _ h => h) (Or.inr ⟨by rfl, rfl⟩) U2 ?_
                simp only [Act.put, List.setIfInBounds_toArray, List.set_cons_zero, List.set_cons_succ]
                refine wpAnyH_take (i := 9) (v := undef) (lit rfl) (by kernel_rfl) (by kernel_rfl) (by kernel_rfl) (fun _ _ _ h => h) (Or.inr ⟨by rfl, rfl⟩) U2 ?_
                simp only [Act.put, List.setIfInBounds_toArray, List.set_cons_zero, List.set_cons_succ]
                refine wpAnyH_take (i := 10) (v := undef) (lit rfl) (by kernel_rfl) (by kernel_rfl) (by kernel_rfl) (fun _ _ _ h => h) (Or.inr ⟨by rfl, rfl⟩) U2 ?_
                simp only [Act.put, List.setIfInBounds_toArray, List.set_cons_zero, List.set_cons_succ]
                refine wpAnyH_take (i := 11) (v := undef) (lit rfl) (by kernel_rfl) (by kernel_rfl) (by kernel_rfl) (fun _ _ _ h => h) (Or.inr ⟨by rfl, rfl⟩) U2 ?_
                simp only [Act.put, List.setIfInBounds_toArray, List.set_cons_zero, List.set_cons_succ]
                refine wpAnyH_take (i := 12) (v := undef) (lit rfl) (by kernel_rfl) (by kernel_rfl) (by kernel_rfl) (fun _ _ _ h => h) (Or.inr ⟨by rfl, rfl⟩) U2 ?_
                simp only [Act.put, List.setIfInBounds_toArray, List.set_cons_zero, List.set_cons_succ]
                refine wpAnyH_take (i := 13) (v := undef) (lit rfl) (by kernel_rfl) (by kernel_rfl) (by kernel_rfl) (fun _ _ _ h => h) (Or.inr ⟨by rfl, rfl⟩) U2 ?_
                simp only [Act.put, List.setIfInBounds_toArray, List.set_cons_zero, List.set_cons_succ]
                refine wpAnyH_take (i := 14) (v := undef) (lit rfl) (by kernel_rfl) (by kernel_rfl) (by kernel_rfl) (fun _ _ _ h => h) (Or.inr ⟨by rfl, rfl⟩) U2 ?_
                simp only [Act.put, List.setIfInBounds_toArray, List.set_cons_zero, List.set_cons_succ]
                refine wpAnyH_take (i := 15) (v := .bool false) (lit rfl) (by kernel_rfl) (by kernel_rfl) (by kernel_rfl) (fun _ _ _ h => h) (Or.inl ⟨by rfl, ?_⟩) U2 ?_
                · rintro w6 hb6
                  go_simp
                simp only [Act.put, List.setIfInBounds_toArray, List.set_cons_zero, List.set_cons_succ]
                refine wpAnyH_take (i := 16) (v := .bool false) (lit rfl) (by kernel_rfl) (by kernel_rfl) (by kernel_rfl) (fun _ _ _ h => h) (Or.inl ⟨by rfl, ?_⟩) U2 ?_
                · rintro w6 hb6
                  go_simp
                simp only [Act.put, List.setIfInBounds_toArray, List.set_cons_zero, List.set_cons_succ]
                refine wpAnyH_take (i := 17) (v := .bool false) (lit rfl) (by kernel_rfl) (by kernel_rfl) (by kernel_rfl) (fun _ _ _ h => h) (Or.inl ⟨by rfl, ?_⟩) U2 ?_
                · rintro w6 hb6
                  go_simp
                simp only [Act.put, List.setIfInBounds_toArray, List.set_cons_zero, List.set_cons_succ]
                refine wpAnyH_take (i := 18) (v := .bool true) (lit rfl) (by kernel_rfl) (by kernel_rfl) (by kernel_rfl) (fun _ _ _ h => h) (Or.inl ⟨by rfl, ?_⟩) U2 ?_
                · rintro w6 hb6
                  go_simp
                simp only [Act.put, List.setIfInBounds_toArray, List.set_cons_zero, List.set_cons_succ]
                refine wpAnyH_take (i := 19) (v := .bool true) (lit rfl) (by kernel_rfl) (by kernel_rfl) (by kernel_rfl) (fun _ _ _ h => h) (Or.inl ⟨by rfl, ?_⟩) U2 ?_
                · rintro w6 hb6
                  go_simp
                simp only [Act.put, List.setIfInBounds_toArray, List.set_cons_zero, List.set_cons_succ]
                refine wpAnyH_take (i := 20) (v := .bool true) (lit rfl) (by kernel_rfl) (by kernel_rfl) (by kernel_rfl) (fun _ _ _ h => h) (Or.inl ⟨by rfl, ?_⟩) U2 ?_
                · rintro w6 hb6
                  go_simp
                simp only [Act.put, List.setIfInBounds_toArray, List.set_cons_zero, List.set_cons_succ]
                refine wpAnyH_take (i := 21) (v := .bool false) (lit rfl) (by kernel_rfl) (by kernel_rfl) (by kernel_rfl) (fun _ _ _ h => h) (Or.inl ⟨by rfl, ?_⟩) U2 ?_
                · rintro w6 hb6
                  go_simp
                simp only [Act.put, List.setIfInBounds_toArray, List.set_cons_zero, List.set_cons_succ]
                refine wpAnyH_take (i := 22) (v := .bool false) (lit rfl) (by kernel_rfl) (by kernel_rfl) (by kernel_rfl) (fun _ _ _ h => h) (Or.inl ⟨by rfl, ?_⟩) U2 ?_
                · rintro w6 hb6
                  go_simp
                simp only [Act.put, List.setIfInBounds_toArray, List.set_cons_zero, List.set_cons_succ]
                refine wpAnyH_take (i := 23) (v := .slice (some ⟨g1, o1, none⟩) m1 c1) (lit rfl) (by kernel_rfl) (by kernel_rfl) (by kernel_rfl) (fun _ _ _ h => h) (Or.inl ⟨by rfl, ?_⟩) U2 ?_
                · rintro w6 hb6
                  go_simp
                simp only [Act.put, List.setIfInBounds_toArray, List.set_cons_zero, List.set_cons_succ]
                refine wpAnyH_take (i := 24) (v := .int .i64 (kk : Int)) (lit rfl) (by kernel_rfl) (by kernel_rfl) (by kernel_rfl) (fun _ _ _ h => h) (Or.inl ⟨by rfl, ?_⟩) U2 ?_
                · rintro w6 hb6
                  go_simp
                simp only [Act.put, List.setIfInBounds_toArray, List.set_cons_zero, List.set_cons_succ]
                refine wpAnyH_take (i := 25) (v := .pointer (some ⟨g1, o1 + kk * 4, none⟩)) (lit rfl) (by kernel_rfl) (by kernel_rfl) (by kernel_rfl) (fun _ _ _ h => h) (Or.inl ⟨by rfl, ?_⟩) U2 ?_
                · rintro w6 hb6
                  go_simp
                simp only [Act.put, List.setIfInBounds_toArray, List.set_cons_zero, List.set_cons_succ]
                refine wpAnyH_take (i := 26) (v := .pointer (some ⟨g1, o1 + kk * 4 + 1, none⟩)) (lit rfl) (by kernel_rfl) (by kernel_rfl) (by kernel_rfl) (fun _ _ _ h => h) (Or.inl ⟨by rfl, ?_⟩) U2 ?_
                · rintro w6 hb6
                  go_simp
                simp only [Act.put, List.setIfInBounds_toArray, List.set_cons_zero, List.set_cons_succ]
                refine wpAnyH_take (i := 27) (v := .pointer (some ⟨g1, o1 + kk * 4 + 1, none⟩)) (lit rfl) (by kernel_rfl) (by kernel_rfl) (by kernel_rfl) (fun _ _ _ h => h) (Or.inl ⟨by rfl, ?_⟩) U2 ?_
                · rintro w6 hb6
                  go_simp
                simp only [Act.put, List.setIfInBounds_toArray, List.set_cons_zero, List.set_cons_succ]
                refine wpAnyH_take (i := 28) (v := .string d2) (lit rfl) (by kernel_rfl) (by kernel_rfl) (by kernel_rfl) (fun _ _ _ h => h) (Or.inl ⟨by rfl, ?_⟩) U2 ?_
                · rintro w6 hb6
                  obtain ⟨y60, y61⟩ := HX1.out w6 hb6
                  go_simp
                simp only [Act.put, List.setIfInBounds_toArray, List.set_cons_zero, List.set_cons_succ]
                refine wpAnyH_take (i := 29) (v := .slice (some ⟨g2, o2, none⟩) m2 c2) (lit rfl) (by kernel_rfl) (by kernel_rfl) (by kernel_rfl) (fun _ _ _ h => h) (Or.inl ⟨by rfl, ?_⟩) U2 ?_
                · rintro w6 hb6
                  go_simp
                simp only [Act.put, List.setIfInBounds_toArray, List.set_cons_zero, List.set_cons_succ]
                refine wpAnyH_take (i := 30) (v := .int .i64 (j : Int)) (lit rfl) (by kernel_rfl) (by kernel_rfl) (by kernel_rfl) (fun _ _ _ h => h) (Or.inl ⟨by rfl, ?_⟩) U2 ?_
                · rintro w6 hb6
                  go_simp
                simp only [Act.put, List.setIfInBounds_toArray, List.set_cons_zero, List.set_cons_succ]
                refine wpAnyH_take (i := 31) (v := .pointer (some ⟨g2, o2 + j * 4, none⟩)) (lit rfl) (by kernel_rfl) (by kernel_rfl) (by kernel_rfl) (fun _ _ _ h => h) (Or.inl ⟨by rfl, ?_⟩) U2 ?_
                · rintro w6 hb6
                  go_simp
                simp only [Act.put, List.setIfInBounds_toArray, List.set_cons_zero, List.set_cons_succ]
                refine wpAnyH_take (i := 32) (v := .pointer (some ⟨g2, o2 + j * 4 + 1, none⟩)) (lit rfl) (by kernel_rfl) (by kernel_rfl) (by kernel_rfl) (fun _ _ _ h => h) (Or.inl ⟨by rfl, ?_⟩) U2 ?_
                · rintro w6 hb6
                  go_simp
                simp only [Act.put, List.setIfInBounds_toArray, List.set_cons_zero, List.set_cons_succ]
                refine wpAnyH_take (i := 33) (v := .pointer (some ⟨g2, o2 + j * 4 + 1, none⟩)) (lit rfl) (by kernel_rfl) (by kernel_rfl) (by kernel_rfl) (fun _ _ _ h => h) (Or.inl ⟨by rfl, ?_⟩) U2 ?_
                · rintro w6 hb6
                  go_simp
                simp only [Act.put, List.setIfInBounds_toArray, List.set_cons_zero, List.set_cons_succ]
                refine wpAnyH_take (i := 34) (v := .string d2) (lit rfl) (by kernel_rfl) (by kernel_rfl) (by kernel_rfl) (fun _ _ _ h => h) (Or.inl ⟨by rfl, ?_⟩) U2 ?_
                · rintro w6 hb6
                  obtain ⟨y60, y61⟩ := HX2.out w6 hb6
                  go_simp
                simp only [Act.put, List.setIfInBounds_toArray, List.set_cons_zero, List.set_cons_succ]
                refine wpAnyH_take (i := 35) (v := .bool false) (lit rfl) (by kernel_rfl) (by kernel_rfl) (by kernel_rfl) (fun _ _ _ h => h) (Or.inl ⟨by rfl, ?_⟩) U2 ?_
                · rintro w6 hb6
                  go_simp
                simp only [Act.put, List.setIfInBounds_toArray, List.set_cons_zero, List.set_cons_succ]
                refine wpAnyH_take (i := 36) (v := .bool false) (lit rfl) (by kernel_rfl) (by kernel_rfl) (by kernel_rfl) (fun _ _ _ h => h) (Or.inl ⟨by rfl, ?_⟩) U2 ?_
                · rintro w6 hb6
                  go_simp
                simp only [Act.put, List.setIfInBounds_toArray, List.set_cons_zero, List.set_cons_succ]
                refine wpAnyH_take (i := 37) (v := .bool false) (lit rfl) (by kernel_rfl) (by kernel_rfl) (by kernel_rfl) (fun _ _ _ h => h) (Or.inl ⟨by rfl, ?_⟩) U2 ?_
                · rintro w6 hb6
                  go_simp
                simp only [Act.put, List.setIfInBounds_toArray, List.set_cons_zero, List.set_cons_succ]
                refine wpAnyH_take (i := 38) (v := .bool false) (lit rfl) (by kernel_rfl) (by kernel_rfl) (by kernel_rfl) (fun _ _ _ h => h) (Or.inl ⟨by rfl, ?_⟩) U2 ?_
                · rintro w6 hb6
                  go_simp
                simp only [Act.put, List.setIfInBounds_toArray, List.set_cons_zero, List.set_cons_succ]
                refine wpAnyH_done (by kernel_rfl) ?_ _
                refine hK _ _ ?_
                have hnx := HNX.out
                go_wp2
                go_roundw
                case rel => exact ⟨j + 1, by omega, by go_num, (by rw [hnx]; try go_num), U2⟩
                case measure => simp [intOf]; omega
              · obtain ⟨jj, hjj⟩ : ∃ jj, j = jj + 1 := ⟨j - 1, by omega⟩
                have HJP : Hid (0 < j) := Lib.hid hz
                clear hz hjp
                have jp : (0 : Int) < (j : Int) := by omega
                obtain ⟨x3, hx3⟩ : ∃ x, e2[jj]? = some x := ⟨_, List.getElem?_eq_getElem (by have := HM2.out; omega)⟩
                have hri : bl x3.1 x2.1 := rise_at HPS.out.rise hx3 HX2E.out (by omega)
                obtain ⟨s3, hs3⟩ : ∃ s : ByteArray, (⟨x3.1.toArray⟩ : ByteArray) = s := ⟨_, rfl⟩
                have h3l : s3.toList = x3.1 := by rw [← hs3]; exact Go.ByteArray.toList_mk _
                obtain ⟨hle1, hle2⟩ := le_no hri
                have hle1 : Op.bytesLess s2.toList s3.toList = false := by rw [H2L.out, h3l]; exact hle1
                have hle2 : (s2.toList == s3.toList) = false := by rw [H2L.out, h3l]; exact hle2
                have HX3 : Hid (∀ w6 : World, Below w9.heap.size w9 w6 → w6.cell? ⟨g2, o2 + jj * 4, none⟩ = some (.string s3) ∧ w6.cell? ⟨g2, o2 + jj * 4 + 1, none⟩ = some (.string ⟨x3.2.toArray⟩)) := HX3I.out g2 o2 jj x3 s3 rfl hx3 hs3
                have hjw : (j : Int) - 1 = (jj : Int) := by omega
                have jj0 : (0 : Int) ≤ (jj : Int) := by omega
                have jj1 : (jj : Int) < (m2 : Int) := by omega
                have hjw2 : IntKind.i64.wrap (jj : Int) = (jj : Int) := by rw [IntWalk.i64_in _ (by omega)]
                clear hri h3l hx3 hs3 hjj
                go_wp2
                first | (rename_i K hK; refine wp_held (fun w6 : World => Below w9.heap.size w9 w6) K hmx ?_ (fun _ _ h => h)) | (rename_i K hK hz; refine wp_held (fun w6 : World => Below w9.heap.size w9 w6) K hmx ?_ (fun _ _ h => h))
                obtain ⟨Wd, hWd⟩ : ∃ X, wr.drew = X := ⟨_, rfl⟩
                rw [hWd] at U0 ⊢
                clear hWd
                refine wpAnyH_take (i := 0) (v := .slice (some ⟨g2, o2, none⟩) m2 c2) (lit rfl) (by kernel_rfl) (by kernel_rfl) (by kernel_rfl) (fun _ _ _ h => h) (Or.inl ⟨by rfl, ?_⟩) U0 ?_
                · rintro w6 hb6
                  go_simp
                simp only [Act.put, List.setIfInBounds_toArray, List.set_cons_zero, List.set_cons_succ]
                refine wpAnyH_take (i := 1) (v := .int .i64 (j : Int)) (lit rfl) (by kernel_rfl) (by kernel_rfl) (by kernel_rfl) (fun _ _ _ h => h) (Or.inl ⟨by rfl, ?_⟩) U0 ?_
                · rintro w6 hb6
                  go_simp
                simp only [Act.put, List.setIfInBounds_toArray, List.set_cons_zero, List.set_cons_succ]
                refine wpAnyH_take (i := 2) (v := .pointer (some ⟨g2, o2 + j * 4, none⟩)) (lit rfl) (by kernel_rfl) (by kernel_rfl) (by kernel_rfl) (fun _ _ _ h => h) (Or.inl ⟨by rfl, ?_⟩) U0 ?_
                · rintro w6 hb6
                  go_simp
                simp only [Act.put, List.setIfInBounds_toArray, List.set_cons_zero, List.set_cons_succ]
                refine wpAnyH_take (i := 3) (v := .pointer (some ⟨g2, o2 + j * 4, none⟩)) (lit rfl) (by kernel_rfl) (by kernel_rfl) (by kernel_rfl) (fun _ _ _ h => h) (Or.inl ⟨by rfl, ?_⟩) U0 ?_
                · rintro w6 hb6
                  go_simp
                simp only [Act.put, List.setIfInBounds_toArray, List.set_cons_zero, List.set_cons_succ]
                refine wpAnyH_take (i := 4) (v := .string s2) (lit rfl) (by kernel_rfl) (by kernel_rfl) (by kernel_rfl) (fun _ _ _ h => h) (Or.inl ⟨by rfl, ?_⟩) U0 ?_
                · rintro w6 hb6
                  obtain ⟨y60, y61⟩ := HX2.out w6 hb6
                  go_simp
                simp only [Act.put, List.setIfInBounds_toArray, List.set_cons_zero, List.set_cons_succ]
                refine wpAnyH_take (i := 5) (v := .slice (some ⟨gl, offl, none⟩) n c) (lit rfl) (by kernel_rfl) (by kernel_rfl) (by kernel_rfl) (fun _ _ _ h => h) (Or.inl ⟨by rfl, ?_⟩) U0 ?_
                · rintro w6 hb6
                  go_simp
                simp only [Act.put, List.setIfInBounds_toArray, List.set_cons_zero, List.set_cons_succ]
                refine wpAnyH_take (i := 6) (v := .int .i64 (k : Int)) (lit rfl) (by kernel_rfl) (by kernel_rfl) (by kernel_rfl) (fun _ _ _ h => h) (Or.inl ⟨by rfl, ?_⟩) U0 ?_
                · rintro w6 hb6
                  go_simp
                simp only [Act.put, List.setIfInBounds_toArray, List.set_cons_zero, List.set_cons_succ]
                refine wpAnyH_take (i := 7) (v := .pointer (some ⟨gl, offl + k * 3, none⟩)) (lit rfl) (by kernel_rfl) (by kernel_rfl) (by kernel_rfl) (fun _ _ _ h => h) (Or.inl ⟨by rfl, ?_⟩) U0 ?_
                · rintro w6 hb6
                  go_simp
                simp only [Act.put, List.setIfInBounds_toArray, List.set_cons_zero, List.set_cons_succ]
                refine wpAnyH_take (i := 8) (v := .pointer (some ⟨gl, offl + k * 3, none⟩)) (lit rfl) (by kernel_rfl) (by kernel_rfl) (by kernel_rfl) (fun _ _ _ h => h) (Or.inl ⟨by rfl, ?_⟩) U0 ?_
                · rintro w6 hb6
                  go_simp
                simp only [Act.put, List.setIfInBounds_toArray, List.set_cons_zero, List.set_cons_succ]
                refine wpAnyH_take (i := 9) (v := .string sk) (lit rfl) (by kernel_rfl) (by kernel_rfl) (by kernel_rfl) (fun _ _ _ h => h) (Or.inl ⟨by rfl, ?_⟩) U0 ?_
                · rintro w6 hb6
                  obtain ⟨y60, y61, y62⟩ := HLI.out w6 hb6
                  go_simp
                simp only [Act.put, List.setIfInBounds_toArray, List.set_cons_zero, List.set_cons_succ]
                refine wpAnyH_take (i := 10) (v := .bool false) (lit rfl) (by kernel_rfl) (by kernel_rfl) (by kernel_rfl) (fun _ _ _ h => h) (Or.inl ⟨by rfl, ?_⟩) U0 ?_
                · rintro w6 hb6
                  go_simp
                simp only [Act.put, List.setIfInBounds_toArray, List.set_cons_zero, List.set_cons_succ]
                refine wpAnyH_take (i := 11) (v := .bool false) (lit rfl) (by kernel_rfl) (by kernel_rfl) (by kernel_rfl) (fun _ _ _ h => h) (Or.inl ⟨by rfl, ?_⟩) U0 ?_
                · rintro w6 hb6
                  go_simp
                simp only [Act.put, List.setIfInBounds_toArray, List.set_cons_zero, List.set_cons_succ]
                refine wpAnyH_done (by kernel_rfl) ?_ _
                refine hK _ _ ?_
                have U1 : Below w9.heap.size w9 Wd.drew := U0.drew
                go_wp2
                first | (rename_i K hK; refine wp_held (fun w6 : World => Below w9.heap.size w9 w6) K hmx ?_ (fun _ _ h => h)) | (rename_i K hK hz; refine wp_held (fun w6 : World => Below w9.heap.size w9 w6) K hmx ?_ (fun _ _ h => h))
                obtain ⟨We, hWd⟩ : ∃ X, Wd.drew = X := ⟨_, rfl⟩
                rw [hWd] at U1 ⊢
                clear hWd
                refine wpAnyH_take (i := 0) (v := .int .i64 (kk : Int)) (lit rfl) (by kernel_rfl) (by kernel_rfl) (by kernel_rfl) (fun _ _ _ h => h) (Or.inl ⟨by rfl, ?_⟩) U1 ?_
                · rintro w6 hb6
                  go_simp
                simp only [Act.put, List.setIfInBounds_toArray, List.set_cons_zero, List.set_cons_succ]
                refine wpAnyH_take (i := 1) (v := .slice (some ⟨g1, o1, none⟩) m1 c1) (lit rfl) (by kernel_rfl) (by kernel_rfl) (by kernel_rfl) (fun _ _ _ h => h) (Or.inl ⟨by rfl, ?_⟩) U1 ?_
                · rintro w6 hb6
                  go_simp
                simp only [Act.put, List.setIfInBounds_toArray, List.set_cons_zero, List.set_cons_succ]
                refine wpAnyH_take (i := 2) (v := .int .i64 (m1 : Int)) (lit rfl) (by kernel_rfl) (by kernel_rfl) (by kernel_rfl) (fun _ _ _ h => h) (Or.inl ⟨by rfl, ?_⟩) U1 ?_
                · rintro w6 hb6
                  go_simp
                simp only [Act.put, List.setIfInBounds_toArray, List.set_cons_zero, List.set_cons_succ]
                refine wpAnyH_take (i := 3) (v := .bool true) (lit rfl) (by kernel_rfl) (by kernel_rfl) (by kernel_rfl) (fun _ _ _ h => h) (Or.inl ⟨by rfl, ?_⟩) U1 ?_
                · rintro w6 hb6
                  go_simp
                simp only [Act.put, List.setIfInBounds_toArray, List.set_cons_zero, List.set_cons_succ]
                refine wpAnyH_take (i := 4) (v := .bool true) (lit rfl) (by kernel_rfl) (by kernel_rfl) (by kernel_rfl) (fun _ _ _ h => h) (Or.inl ⟨by rfl, ?_⟩) U1 ?_
                · rintro w6 hb6
                  go_simp
                simp only [Act.put, List.setIfInBounds_toArray, List.set_cons_zero, List.set_cons_succ]
                refine wpAnyH_take (i := 5) (v := .slice (some ⟨g1, o1, none⟩) m1 c1) (lit rfl) (by kernel_rfl) (by kernel_rfl) (by kernel_rfl) (fun _ _ _ h => h) (Or.inl ⟨by rfl, ?_⟩) U1 ?_
                · rintro w6 hb6
                  go_simp
                simp only [Act.put, List.setIfInBounds_toArray, List.set_cons_zero, List.set_cons_succ]
                refine wpAnyH_take (i := 6) (v := .int .i64 (kk : Int)) (lit rfl) (by kernel_rfl) (by kernel_rfl) (by kernel_rfl) (fun _ _ _ h => h) (Or.inl ⟨by rfl, ?_⟩) U1 ?_
                · rintro w6 hb6
                  go_simp
                simp only [Act.put, List.setIfInBounds_toArray, List.set_cons_zero, List.set_cons_succ]
                refine wpAnyH_take (i := 7) (v := .pointer (some ⟨g1, o1 + kk * 4, none⟩)) (lit rfl) (by kernel_rfl) (by kernel_rfl) (by kernel_rfl) (fun _ _ _ h => h) (Or.inl ⟨by rfl, ?_⟩) U1 ?_
                · rintro w6 hb6
                  go_simp
                simp only [Act.put, List.setIfInBounds_toArray, List.set_cons_zero, List.set_cons_succ]
                refine wpAnyH_take (i := 8) (v := .pointer (some ⟨g1, o1 + kk * 4, none⟩)) (lit rfl) (by kernel_rfl) (by kernel_rfl) (by kernel_rfl) (fun _ _ _ h => h) (Or.inl ⟨by rfl, ?_⟩) U1 ?_
                · rintro w6 hb6
                  go_simp
                simp only [Act.put, List.setIfInBounds_toArray, List.set_cons_zero, List.set_cons_succ]
                refine wpAnyH_take (i := 9) (v := .string s2) (lit rfl) (by kernel_rfl) (by kernel_rfl) (by kernel_rfl) (fun _ _ _ h => h) (Or.inl ⟨by rfl, ?_⟩) U1 ?_
                · rintro w6 hb6
                  obtain ⟨y60, y61⟩ := HX1.out w6 hb6
                  go_simp
                simp only [Act.put, List.setIfInBounds_toArray, List.set_cons_zero, List.set_cons_succ]
                refine wpAnyH_take (i := 10) (v := .slice (some ⟨g2, o2, none⟩) m2 c2) (lit rfl) (by kernel_rfl) (by kernel_rfl) (by kernel_rfl) (fun _ _ _ h => h) (Or.inl ⟨by rfl, ?_⟩) U1 ?_
                · rintro w6 hb6
                  go_simp
                simp only [Act.put, List.setIfInBounds_toArray, List.set_cons_zero, List.set_cons_succ]
                refine wpAnyH_take (i := 11) (v := .int .i64 (j : Int)) (lit rfl) (by kernel_rfl) (by kernel_rfl) (by kernel_rfl) (fun _ _ _ h => h) (Or.inl ⟨by rfl, ?_⟩) U1 ?_
                · rintro w6 hb6
                  go_simp
                simp only [Act.put, List.setIfInBounds_toArray, List.set_cons_zero, List.set_cons_succ]
                refine wpAnyH_take (i := 12) (v := .pointer (some ⟨g2, o2 + j * 4, none⟩)) (lit rfl) (by kernel_rfl) (by kernel_rfl) (by kernel_rfl) (fun _ _ _ h => h) (Or.inl ⟨by rfl, ?_⟩) U1 ?_
                · rintro w6 hb6
                  go_simp
                simp only [Act.put, List.setIfInBounds_toArray, List.set_cons_zero, List.set_cons_succ]
                refine wpAnyH_take (i := 13) (v := .pointer (some ⟨g2, o2 + j * 4, none⟩)) (lit rfl) (by kernel_rfl) (by kernel_rfl) (by kernel_rfl) (fun _ _ _ h => h) (Or.inl ⟨by rfl, ?_⟩) U1 ?_
                · rintro w6 hb6
                  go_simp
                simp only [Act.put, List.setIfInBounds_toArray, List.set_cons_zero, List.set_cons_succ]
                refine wpAnyH_take (i := 14) (v := .string s2) (lit rfl) (by kernel_rfl) (by kernel_rfl) (by kernel_rfl) (fun _ _ _ h => h) (Or.inl ⟨by rfl, ?_⟩) U1 ?_
                · rintro w6 hb6
                  obtain ⟨y60, y61⟩ := HX2.out w6 hb6
                  go_simp
                simp only [Act.put, List.setIfInBounds_toArray, List.set_cons_zero, List.set_cons_succ]
                refine wpAnyH_take (i := 15) (v := .bool true) (lit rfl) (by kernel_rfl) (by kernel_rfl) (by kernel_rfl) (fun _ _ _ h => h) (Or.inl ⟨by rfl, ?_⟩) U1 ?_
                · rintro w6 hb6
                  go_simp
                simp only [Act.put, List.setIfInBounds_toArray, List.set_cons_zero, List.set_cons_succ]
                refine wpAnyH_take (i := 16) (v := .bool true) (lit rfl) (by kernel_rfl) (by kernel_rfl) (by kernel_rfl) (fun _ _ _ h => h) (Or.inl ⟨by rfl, ?_⟩) U1 ?_
                · rintro w6 hb6
                  go_simp
                simp only [Act.put, List.setIfInBounds_toArray, List.set_cons_zero, List.set_cons_succ]
                refine wpAnyH_take (i := 17) (v := .bool true) (lit rfl) (by kernel_rfl) (by kernel_rfl) (by kernel_rfl) (fun _ _ _ h => h) (Or.inl ⟨by rfl, ?_⟩) U1 ?_
                · rintro w6 hb6
                  go_simp
                simp only [Act.put, List.setIfInBounds_toArray, List.set_cons_zero, List.set_cons_succ]
                refine wpAnyH_done (by kernel_rfl) ?_ _
                refine hK _ _ ?_
                have U2 : Below w9.heap.size w9 We.drew := U1.drew
                go_wp2
                first | (rename_i K hK; refine wp_held (fun w6 : World => Below w9.heap.size w9 w6) K hmx ?_ (fun _ _ h => h)) | (rename_i K hK hz; refine wp_held (fun w6 : World => Below w9.heap.size w9 w6) K hmx ?_ (fun _ _ h => h))
                obtain ⟨Wf, hWd⟩ : ∃ X, We.drew = X := ⟨_, rfl⟩
                rw [hWd] at U2 ⊢
                clear hWd
                refine wpAnyH_take (i := 0) (v := .int .i64 (j : Int)) (lit rfl) (by kernel_rfl) (by kernel_rfl) (by kernel_rfl) (fun _ _ _ h => h) (Or.inl ⟨by rfl, ?_⟩) U2 ?_
                · rintro w6 hb6
                  go_simp
                simp only [Act.put, List.setIfInBounds_toArray, List.set_cons_zero, List.set_cons_succ]
                refine wpAnyH_take (i := 1) (v := .bool true) (lit rfl) (by kernel_rfl) (by kernel_rfl) (by kernel_rfl) (fun _ _ _ h => h) (Or.inl ⟨by rfl, ?_⟩) U2 ?_
                · rintro w6 hb6
                  go_simp
                  all_goals exact HJP.out
                simp only [Act.put, List.setIfInBounds_toArray, List.set_cons_zero, List.set_cons_succ]
                refine wpAnyH_take (i := 2) (v := .bool true) (lit rfl) (by kernel_rfl) (by kernel_rfl) (by kernel_rfl) (fun _ _ _ h => h) (Or.inl ⟨by rfl, ?_⟩) U2 ?_
                · rintro w6 hb6
                  go_simp
                simp only [Act.put, List.setIfInBounds_toArray, List.set_cons_zero, List.set_cons_succ]
                refine wpAnyH_take (i := 3) (v := .slice (some ⟨g2, o2, none⟩) m2 c2) (lit rfl) (by kernel_rfl) (by kernel_rfl) (by kernel_rfl) (fun _ _ _ h => h) (Or.inl ⟨by rfl, ?_⟩) U2 ?_
                · rintro w6 hb6
                  go_simp
                simp only [Act.put, List.setIfInBounds_toArray, List.set_cons_zero, List.set_cons_succ]
                refine wpAnyH_take (i := 4) (v := .int .i64 (j : Int)) (lit rfl) (by kernel_rfl) (by kernel_rfl) (by kernel_rfl) (fun _ _ _ h => h) (Or.inl ⟨by rfl, ?_⟩) U2 ?_
                · rintro w6 hb6
                  go_simp
                simp only [Act.put, List.setIfInBounds_toArray, List.set_cons_zero, List.set_cons_succ]
                refine wpAnyH_take (i := 5) (v := .pointer (some ⟨g2, o2 + j * 4, none⟩)) (lit rfl) (by kernel_rfl) (by kernel_rfl) (by kernel_rfl) (fun _ _ _ h => h) (Or.inl ⟨by rfl, ?_⟩) U2 ?_
                · rintro w6 hb6
                  go_simp
                simp only [Act.put, List.setIfInBounds_toArray, List.set_cons_zero, List.set_cons_succ]
                refine wpAnyH_take (i := 6) (v := .pointer (some ⟨g2, o2 + j * 4, none⟩)) (lit rfl) (by kernel_rfl) (by kernel_rfl) (by kernel_rfl) (fun _ _ _ h => h) (Or.inl ⟨by rfl, ?_⟩) U2 ?_
                · rintro w6 hb6
                  go_simp
                simp only [Act.put, List.setIfInBounds_toArray, List.set_cons_zero, List.set_cons_succ]
                refine wpAnyH_take (i := 7) (v := .string s2) (lit rfl) (by kernel_rfl) (by kernel_rfl) (by kernel_rfl) (fun _ _ _ h => h) (Or.inl ⟨by rfl, ?_⟩) U2 ?_
                · rintro w6 hb6
                  obtain ⟨y60, y61⟩ := HX2.out w6 hb6
                  go_simp
                simp only [Act.put, List.setIfInBounds_toArray, List.set_cons_zero, List.set_cons_succ]
                refine wpAnyH_take (i := 8) (v := .slice (some ⟨g2, o2, none⟩) m2 c2) (lit rfl) (by kernel_rfl) (by kernel_rfl) (by kernel_rfl) (fun _ _ _ h => h) (Or.inl ⟨by rfl, ?_⟩) U2 ?_
                · rintro w6 hb6
                  go_simp
                simp only [Act.put, List.setIfInBounds_toArray, List.set_cons_zero, List.set_cons_succ]
                refine wpAnyH_take (i := 9) (v := .int .i64 (j : Int)) (lit rfl) (by kernel_rfl) (by kernel_rfl) (by kernel_rfl) (fun _ _ _ h => h) (Or.inl ⟨by rfl, ?_⟩) U2 ?_
                · rintro w6 hb6
                  go_simp
                simp only [Act.put, List.setIfInBounds_toArray, List.set_cons_zero, List.set_cons_succ]
                refine wpAnyH_take (i := 10) (v := .int .i64 (jj : Int)) (lit rfl) (by kernel_rfl) (by kernel_rfl) (by kernel_rfl) (fun _ _ _ h => h) (Or.inl ⟨by rfl, ?_⟩) U2 ?_
                · rintro w6 hb6
                  go_simp
                simp only [Act.put, List.setIfInBounds_toArray, List.set_cons_zero, List.set_cons_succ]
                refine wpAnyH_take (i := 11) (v := .pointer (some ⟨g2, o2 + jj * 4, none⟩)) (lit rfl) (by kernel_rfl) (by kernel_rfl) (by kernel_rfl) (fun _ _ _ h => h) (Or.inl ⟨by rfl, ?_⟩) U2 ?_
                · rintro w6 hb6
                  go_simp
                simp only [Act.put, List.setIfInBounds_toArray, List.set_cons_zero, List.set_cons_succ]
                refine wpAnyH_take (i := 12) (v := .pointer (some ⟨g2, o2 + jj * 4, none⟩)) (lit rfl) (by kernel_rfl) (by kernel_rfl) (by kernel_rfl) (fun _ _ _ h => h) (Or.inl ⟨by rfl, ?_⟩) U2 ?_
                · rintro w6 hb6
                  go_simp
                simp only [Act.put, List.setIfInBounds_toArray, List.set_cons_zero, List.set_cons_succ]
                refine wpAnyH_take (i := 13) (v := .string s3) (lit rfl) (by kernel_rfl) (by kernel_rfl) (by kernel_rfl) (fun _ _ _ h => h) (Or.inl ⟨by rfl, ?_⟩) U2 ?_
                · rintro w6 hb6
                  obtain ⟨y60, y61⟩ := HX3.out w6 hb6
                  go_simp
                simp only [Act.put, List.setIfInBounds_toArray, List.set_cons_zero, List.set_cons_succ]
                refine wpAnyH_take (i := 14) (v := .bool false) (lit rfl) (by kernel_rfl) (by kernel_rfl) (by kernel_rfl) (fun _ _ _ h => h) (Or.inl ⟨by rfl, ?_⟩) U2 ?_
                · rintro w6 hb6
                  go_simp
                simp only [Act.put, List.setIfInBounds_toArray, List.set_cons_zero, List.set_cons_succ]
                refine wpAnyH_take (i := 15) (v := .bool false) (lit rfl) (by kernel_rfl) (by kernel_rfl) (by kernel_rfl) (fun _ _ _ h => h) (Or.inl ⟨by rfl, ?_⟩) U2 ?_
                · rintro w6 hb6
                  go_simp
                simp only [Act.put, List.setIfInBounds_toArray, List.set_cons_zero, List.set_cons_succ]
                refine wpAnyH_take (i := 16) (v := .bool false) (lit rfl) (by kernel_rfl) (by kernel_rfl) (by kernel_rfl) (fun _ _ _ h => h) (Or.inl ⟨by rfl, ?_⟩) U2 ?_
                · rintro w6 hb6
                  go_simp
                simp only [Act.put, List.setIfInBounds_toArray, List.set_cons_zero, List.set_cons_succ]
                refine wpAnyH_take (i := 17) (v := .bool false) (lit rfl) (by kernel_rfl) (by kernel_rfl) (by kernel_rfl) (fun _ _ _ h => h) (Or.inl ⟨by rfl, ?_⟩) U2 ?_
                · rintro w6 hb6
                  go_simp
                simp only [Act.put, List.setIfInBounds_toArray, List.set_cons_zero, List.set_cons_succ]
                refine wpAnyH_take (i := 18) (v := .bool true) (lit rfl) (by kernel_rfl) (by kernel_rfl) (by kernel_rfl) (fun _ _ _ h => h) (Or.inl ⟨by rfl, ?_⟩) U2 ?_
                · rintro w6 hb6
                  go_simp
                simp only [Act.put, List.setIfInBounds_toArray, List.set_cons_zero, List.set_cons_succ]
                refine wpAnyH_take (i := 19) (v := .bool true) (lit rfl) (by kernel_rfl) (by kernel_rfl) (by kernel_rfl) (fun _ _ _ h => h) (Or.inl ⟨by rfl, ?_⟩) U2 ?_
                · rintro w6 hb6
                  go_simp
                simp only [Act.put, List.setIfInBounds_toArray, List.set_cons_zero, List.set_cons_succ]
                refine wpAnyH_take (i := 20) (v := .bool true) (lit rfl) (by kernel_rfl) (by kernel_rfl) (by kernel_rfl) (fun _ _ _ h => h) (Or.inl ⟨by rfl, ?_⟩) U2 ?_
                · rintro w6 hb6
                  go_simp
                simp only [Act.put, List.setIfInBounds_toArray, List.set_cons_zero, List.set_cons_succ]
                refine wpAnyH_take (i := 21) (v := .bool false) (lit rfl) (by kernel_rfl) (by kernel_rfl) (by kernel_rfl) (fun _ _ _ h => h) (Or.inl ⟨by rfl, ?_⟩) U2 ?_
                · rintro w6 hb6
                  go_simp
                simp only [Act.put, List.setIfInBounds_toArray, List.set_cons_zero, List.set_cons_succ]
                refine wpAnyH_take (i := 22) (v := .bool false) (lit rfl) (by kernel_rfl) (by kernel_rfl) (by kernel_rfl) (fun _ _ _ h => h) (Or.inl ⟨by rfl, ?_⟩) U2 ?_
                · rintro w6 hb6
                  go_simp
                simp only [Act.put, List.setIfInBounds_toArray, List.set_cons_zero, List.set_cons_succ]
                refine wpAnyH_take (i := 23) (v := .slice (some ⟨g1, o1, none⟩) m1 c1) (lit rfl) (by kernel_rfl) (by kernel_rfl) (by kernel_rfl) (fun _ _ _ h => h) (Or.inl ⟨by rfl, ?_⟩) U2 ?_
                · rintro w6 hb6
                  go_simp
                simp only [Act.put, List.setIfInBounds_toArray, List.set_cons_zero, List.set_cons_succ]
                refine wpAnyH_take (i := 24) (v := .int .i64 (kk : Int)) (lit rfl) (by kernel_rfl) (by kernel_rfl) (by kernel_rfl) (fun _ _ _ h => h) (Or.inl ⟨by rfl, ?_⟩) U2 ?_
                · rintro w6 hb6
                  go_simp
                simp only [Act.put, List.setIfInBounds_toArray, List.set_cons_zero, List.set_cons_succ]
                refine wpAnyH_take (i := 25) (v := .pointer (some ⟨g1, o1 + kk * 4, none⟩)) (lit rfl) (by kernel_rfl) (by kernel_rfl) (by kernel_rfl) (fun _ _ _ h => h) (Or.inl ⟨by rfl, ?_⟩) U2 ?_
                · rintro w6 hb6
                  go_simp
                simp only [Act.put, List.setIfInBounds_toArray, List.set_cons_zero, List.set_cons_succ]
                refine wpAnyH_take (i := 26) (v := .pointer (some ⟨g1, o1 + kk * 4 + 1, none⟩)) (lit rfl) (by kernel_rfl) (by kernel_rfl) (by kernel_rfl) (fun _ _ _ h => h) (Or.inl ⟨by rfl, ?_⟩) U2 ?_
                · rintro w6 hb6
                  go_simp
                simp only [Act.put, List.setIfInBounds_toArray, List.set_cons_zero, List.set_cons_succ]
                refine wpAnyH_take (i := 27) (v := .pointer (some ⟨g1, o1 + kk * 4 + 1, none⟩)) (lit rfl) (by kernel_rfl) (by kernel_rfl) (by kernel_rfl) (fun _ _ _ h => h) (Or.inl ⟨by rfl, ?_⟩) U2 ?_
                · rintro w6 hb6
                  go_simp
                simp only [Act.put, List.setIfInBounds_toArray, List.set_cons_zero, List.set_cons_succ]
                refine wpAnyH_take (i := 28) (v := .string d2) (lit rfl) (by kernel_rfl) (by kernel_rfl) (by kernel_rfl) (fun _ _ _ h => h) (Or.inl ⟨by rfl, ?_⟩) U2 ?_
                · rintro w6 hb6
                  obtain ⟨y60, y61⟩ := HX1.out w6 hb6
                  go_simp
                simp only [Act.put, List.setIfInBounds_toArray, List.set_cons_zero, List.set_cons_succ]
                refine wpAnyH_take (i := 29) (v := .slice (some ⟨g2, o2, none⟩) m2 c2) (lit rfl) (by kernel_rfl) (by kernel_rfl) (by kernel_rfl) (fun _ _ _ h => h) (Or.inl ⟨by rfl, ?_⟩) U2 ?_
                · rintro w6 hb6
                  go_simp
                simp only [Act.put, List.setIfInBounds_toArray, List.set_cons_zero, List.set_cons_succ]
                refine wpAnyH_take (i := 30) (v := .int .i64 (j : Int)) (lit rfl) (by kernel_rfl) (by kernel_rfl) (by kernel_rfl) (fun _ _ _ h => h) (Or.inl ⟨by rfl, ?_⟩) U2 ?_
                · rintro w6 hb6
                  go_simp
                simp only [Act.put, List.setIfInBounds_toArray, List.set_cons_zero, List.set_cons_succ]
                refine wpAnyH_take (i := 31) (v := .pointer (some ⟨g2, o2 + j * 4, none⟩)) (lit rfl) (by kernel_rfl) (by kernel_rfl) (by kernel_rfl) (fun _ _ _ h => h) (Or.inl ⟨by rfl, ?_⟩) U2 ?_
                · rintro w6 hb6
                  go_simp
                simp only [Act.put, List.setIfInBounds_toArray, List.set_cons_zero, List.set_cons_succ]
                refine wpAnyH_take (i := 32) (v := .pointer (some ⟨g2, o2 + j * 4 + 1, none⟩)) (lit rfl) (by kernel_rfl) (by kernel_rfl) (by kernel_rfl) (fun _ _ _ h => h) (Or.inl ⟨by rfl, ?_⟩) U2 ?_
                · rintro w6 hb6
                  go_simp
                simp only [Act.put, List.setIfInBounds_toArray, List.set_cons_zero, List.set_cons_succ]
                refine wpAnyH_take (i := 33) (v := .pointer (some ⟨g2, o2 + j * 4 + 1, none⟩)) (lit rfl) (by kernel_rfl) (by kernel_rfl) (by kernel_rfl) (fun _ _ _ h => h) (Or.inl ⟨by rfl, ?_⟩) U2 ?_
                · rintro w6 hb6
                  go_simp
                simp only [Act.put, List.setIfInBounds_toArray, List.set_cons_zero, List.set_cons_succ]
                refine wpAnyH_take (i := 34) (v := .string d2) (lit rfl) (by kernel_rfl) (by kernel_rfl) (by kernel_rfl) (fun _ _ _ h => h) (Or.inl ⟨by rfl, ?_⟩) U2 ?_
                · rintro w6 hb6
                  obtain ⟨y60, y61⟩ := HX2.out w6 hb6
                  go_simp
                simp only [Act.put, List.setIfInBounds_toArray, List.set_cons_zero, List.set_cons_succ]
                refine wpAnyH_take (i := 35) (v := .bool false) (lit rfl) (by kernel_rfl) (by kernel_rfl) (by kernel_rfl) (fun _ _ _ h => h) (Or.inl ⟨by rfl, ?_⟩) U2 ?_
                · rintro w6 hb6
                  go_simp
                simp only [Act.put, List.setIfInBounds_toArray, List.set_cons_zero, List.set_cons_succ]
                refine wpAnyH_take (i := 36) (v := .bool false) (lit rfl) (by kernel_rfl) (by kernel_rfl) (by kernel_rfl) (fun _ _ _ h => h) (Or.inl ⟨by rfl, ?_⟩) U2 ?_
                · rintro w6 hb6
                  go_simp
                simp only [Act.put, List.setIfInBounds_toArray, List.set_cons_zero, List.set_cons_succ]
                refine wpAnyH_take (i := 37) (v := .bool false) (lit rfl) (by kernel_rfl) (by kernel_rfl) (by kernel_rfl) (fun _ _ _ h => h) (Or.inl ⟨by rfl, ?_⟩) U2 ?_
                · rintro w6 hb6
                  go_simp
                simp only [Act.put, List.setIfInBounds_toArray, List.set_cons_zero, List.set_cons_succ]
                refine wpAnyH_take (i := 38) (v := .bool false) (lit rfl) (by kernel_rfl) (by kernel_rfl) (by kernel_rfl) (fun _ _ _ h => h) (Or.inl ⟨by rfl, ?_⟩) U2 ?_
                · rintro w6 hb6
                  go_simp
                simp only [Act.put, List.setIfInBounds_toArray, List.set_cons_zero, List.set_cons_succ]
                refine wpAnyH_done (by kernel_rfl) ?_ _
                refine hK _ _ ?_
                have hnx := HNX.out
                go_wp2
                go_roundw
                case rel => exact ⟨j + 1, by omega, by go_num, (by rw [hnx]; try go_num), U2⟩
                case measure => simp [intOf]; omega
          · have hje : j = m2 := by omega
            have hkend : kk = m1 := by rw [← hkk2, hje, ← HM2.out, kof_end HPS.out, HM1.out]
            have j1 : ¬ (j : Int) < (m2 : Int) := by omega
            have HPYQ := Lib.hid (HPY9.out.below hb)
            have x0 := HPYQ.out.b.cell 0
            have x1 := HPYQ.out.b.cell 1
            have x2 := HPYQ.out.b.cell 2
            have x3 := HPYQ.out.b.cell 3
            have x4 := HPYQ.out.b.cell 4
            have HXQ := Lib.hid (HX5V.out.below HPYQ.out.bl HX5V.out.lt)
            have f0 := HXQ.out.free 0
            have f1 := HXQ.out.free 1
            have f2 := HXQ.out.free 2
            have f3 := HXQ.out.free 3
            have f4 := HXQ.out.free 4
            have u0 := HXQ.out.cell 0
            have u1 := HXQ.out.cell 1
            have u2 := HXQ.out.cell 2
            have u3 := HXQ.out.cell 3
            have u4 := HXQ.out.cell 4
            have hone := put_oneI HPYQ.out HX5V.out ⟨.int .i64 p1, .bool lf1, .slice kA1 kn1 kc1, .slice vA1 vn1 vc1, .slice dA1 dn1 dc1, rfl⟩ HORD.out HBV.out HGD.out.1 HGD.out.2.2
            unfold st5 at hone
            simp only at hone
            have HONE := Lib.hid hone
            clear hone
            rw [hkend]
            clear hkk2 hkend hje hb
            go_wp2
            go_roundw
            case rel => exact ⟨k + 1, tp, ⟨p3, lf3, kA3, kn3, kc3, vA3, vn3, vc3, dA3, dn3, dc3⟩, by omega, by go_num, HONE.out⟩
            case measure => simp [intOf]; omega
    · have i1 : ¬ (k : Int) < (n : Int) := by omega
      go_wp2
      go_ret
      exact ⟨rfl, HI.out.bl⟩
end Go.Proofs.Ytpaklhifnndeoaa
