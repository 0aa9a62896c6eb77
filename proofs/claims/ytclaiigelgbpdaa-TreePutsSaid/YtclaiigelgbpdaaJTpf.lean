import Derived.Test.YtclaiigelgbpdaaJ10
/- Of a claim's texts, joined: Tpf. No statement but in the last. -/
namespace Go.Proofs.Ytclaiigelgbpdaa
open Go.RowKit
set_option linter.unusedVariables false

theorem row_int {F : Nat → Prop} {w : World} {A : Option Addr} {n c : Nat} {l : List Int} (h : RwF F w A n c 1 (l.map (Value.int .i64))) {i : Nat} (hi : i < l.length) : ∃ g off, A = some ⟨g, off, none⟩ ∧ w.cell? ⟨g, off + i, none⟩ = some (.int .i64 l[i]) := by
  obtain ⟨g, off, hA, _, hr⟩ := h.reads (by rw [List.length_map]; omega)
  exact ⟨g, off, hA, hr i _ (by rw [List.getElem?_map, List.getElem?_eq_getElem hi]; rfl)⟩
set_option maxRecDepth 100000 in
set_option maxHeartbeats 8000000 in
theorem r15Same_any : ∀ (t : Tr) (F G : Nat → Prop) (a b : NV) (w : World), RepN F w a t → RepN G w b t → Calls Try.prog 15 #[nvV a, nvV b] w fun e w' => e = .returned (.bool true) ∧ Below w.heap.size w w' := by
  intro t
  induction t using Tr.ind with
  | hl p l =>
    intro F G a b w ha hb
    obtain ⟨pa1, pa2, ea, ra, ca⟩ := repN_iff.1 ha
    obtain ⟨pb1, pb2, eb, rb, cb⟩ := repN_iff.1 hb
    have ca' : Both (CellL F w) ea l := ca
    have cb' : Both (CellL G w) eb l := cb
    obtain ⟨p1, lf1, A1, n, c1⟩ := a
    obtain ⟨p2, lf2, A2, n2, c2⟩ := b
    simp only at pa1 pa2 pb1 pb2 ra rb
    have hl1 : lf1 = true := pa2
    have hl2 : lf2 = true := pb2
    have hp : p1 = p2 := by rw [pa1, pb1]
    have hn1 : n = l.length := by rw [ra.len4]; exact ca'.1
    have hn2 : n2 = n := by rw [rb.len4, hn1]; exact cb'.1
    subst hl1 hl2 hp hn2
    have hnm : n2 ≤ 9223372036854775807 := by have h1 := ra.room; have h2 := ra.most; unfold maxLen at h2; omega
    unfold nvV
    simp only
    obtain ⟨W, hW⟩ : ∃ W, (w.alloc (.cells #[.int .i64 p1, .bool true, .slice A1 n2 c1] 33)).alloc (.cells #[.int .i64 p1, .bool true, .slice A2 n2 c2] 33) = W := ⟨_, rfl⟩
    have hB0 : Below w.heap.size w W := hW ▸ ((Below.refl _ w).alloc (Nat.le_refl _) _).alloc (by simp) _
    have hX2 : Has W w.heap.size 33 #[.int .i64 p1, .bool true, .slice A1 n2 c1] := hW ▸ (Has.made w 33 _).alloc _
    have hX3 : Has W (w.heap.size + 1) 33 #[.int .i64 p1, .bool true, .slice A2 n2 c2] := hW ▸ (by have := Has.made (w.alloc (.cells #[.int .i64 p1, .bool true, .slice A1 n2 c1] 33)) 33 #[.int .i64 p1, .bool true, .slice A2 n2 c2]; simpa using this)
    have HRA := Lib.hid (ra.below hB0)
    have HRB := Lib.hid (rb.below hB0)
    have HCA := Lib.hid ca'
    have HCB := Lib.hid cb'
    have HNL := Lib.hid hn1
    have HLA := Lib.hid ra.len4
    have HLB := Lib.hid rb.len4
    obtain ⟨P2, hP2⟩ : ∃ P, w.heap.size = P := ⟨_, rfl⟩
    obtain ⟨P3, hP3⟩ : ∃ P, P2 + 1 = P := ⟨_, rfl⟩
    rw [hP2] at hX2
    rw [hP2, hP3] at hX3
    have HX2 := Lib.hid hX2
    have HX3 := Lib.hid hX3
    have HB0 := Lib.hid hB0
    have x20 := hX2.cell 0
    have x21 := hX2.cell 1
    have x22 := hX2.cell 2
    have x30 := hX3.cell 0
    have x31 := hX3.cell 1
    have x32 := hX3.cell 2
    have HP3 := Lib.hid hP3
    have hmx : Try.prog.follows .mixedOrders = true := by kernel_rfl
    clear ha hb pa1 pa2 pb1 pb2 ra rb ca cb ca' cb' hn1 hX2 hX3 hB0
    go_enter Try.func15, Try.ntmps15
    go_wp2
    try rw [hP2]
    try rw [HP3.out]
    clear hW x20 x21 x22 x30 x31 x32 hP3
    go_loopw [5] (fun i wr => ∃ k : Nat, k ≤ n2 ∧ i = .int .i64 (k : Int) ∧ Below W.heap.size W wr) (fun i _ => n2 - (intOf i).toNat)
    case atStart => exact ⟨0, Nat.zero_le _, rfl, Below.refl _ _⟩
    case round =>
      obtain ⟨k, hk, rfl, hb⟩ := hrel
      have hXa := HX2.out.below hb HX2.out.lt
      have hXb := HX3.out.below hb HX3.out.lt
      have x22 := hXa.cell 2
      by_cases hlt : k < n2
      · have hkl : k < l.length := by rw [← HNL.out]; exact hlt
        obtain ⟨e1, he1, hr1⟩ := HCA.out.at_ (List.getElem?_eq_getElem hkl)
        obtain ⟨e2, he2, hr2⟩ := HCB.out.at_ (List.getElem?_eq_getElem hkl)
        obtain ⟨ga, oa, hA, hFa, a0, a1, a2, a3⟩ := (HRA.out.below hb).at4 he1
        obtain rfl := hA
        obtain ⟨gb, ob, hA, hFb, b0, b1, b2, b3⟩ := (HRB.out.below hb).at4 he2
        obtain rfl := hA
        obtain ⟨⟨k1, d1⟩, rp1, n1a, n1b, n1c⟩ := hr1
        obtain ⟨⟨k2, d2⟩, rp2, n2a, n2b, n2c⟩ := hr2
        obtain ⟨pg, hpg⟩ : ∃ q, l[k].pg = q := ⟨_, rfl⟩
        rw [hpg] at rp1 rp2
        rw [n1a, n1b, n1c] at a3
        rw [n2a, n2b, n2c] at b3
        have kq : e2.k = e1.k := by rw [k1, k2]
        have dq : e2.d = e1.d := by rw [d1, d2]
        clear n1a n1b n1c n2a n2b n2c k1 k2 d1 d2 hpg
        have hm1 := rp1.len
        have hm2 := rp2.len
        rw [List.length_map, Nat.mul_one] at hm1 hm2
        have hpnm : e1.pn ≤ 9223372036854775807 := by have h1 := rp1.room; have h2 := rp1.most; unfold maxLen at h2; omega
        have RP1 := Lib.hid (rp1.below HB0.out)
        have RP2 := Lib.hid (rp2.below HB0.out)
        have hpn : e2.pn = e1.pn := by omega
        rw [hpn] at b2
        obtain ⟨m, hm⟩ : ∃ m, e1.pn = m := ⟨_, rfl⟩
        rw [hm] at a2 b2 hpnm
        have HPG : Hid (pg.length = m) := Lib.hid (by omega)
        have hsk : (⟨e2.k.toArray⟩ : ByteArray) = ⟨e1.k.toArray⟩ := by rw [kq]
        have hsd : (⟨e2.d.toArray⟩ : ByteArray) = ⟨e1.d.toArray⟩ := by rw [dq]
        rw [hsk] at b0
        rw [hsd] at b1
        obtain ⟨sk, hsk2⟩ : ∃ s : ByteArray, (⟨e1.k.toArray⟩ : ByteArray) = s := ⟨_, rfl⟩
        obtain ⟨sd, hsd2⟩ : ∃ s : ByteArray, (⟨e1.d.toArray⟩ : ByteArray) = s := ⟨_, rfl⟩
        rw [hsk2] at a0 b0
        rw [hsd2] at a1 b1
        have i0 : (0 : Int) ≤ (k : Int) := by omega
        have i1 : (k : Int) < (n2 : Int) := by omega
        obtain ⟨cp1, hcp1⟩ : ∃ c, e1.pc = c := ⟨_, rfl⟩
        obtain ⟨cp2, hcp2⟩ : ∃ c, e2.pc = c := ⟨_, rfl⟩
        obtain ⟨Ap1, hAp1⟩ : ∃ c, e1.pa = c := ⟨_, rfl⟩
        obtain ⟨Ap2, hAp2⟩ : ∃ c, e2.pa = c := ⟨_, rfl⟩
        rw [hcp1, hAp1] at a2
        rw [hcp2, hAp2] at b2
        rw [hAp1] at RP1
        rw [hAp2] at RP2
        have HE6 : Hid (Has (wr.alloc (.cells #[.string sk, .string sd, .slice Ap1 m cp1, .slice none 0 0] 53)) wr.heap.size 53 #[.string sk, .string sd, .slice Ap1 m cp1, .slice none 0 0]) := Lib.hid (Has.made wr 53 _)
        have c32 := (hXb.alloc (.cells #[.string sk, .string sd, .slice Ap1 m cp1, .slice none 0 0] 53)).cell 2
        have hbr : Below wr.heap.size wr (wr.alloc (.cells #[.string sk, .string sd, .slice Ap1 m cp1, .slice none 0 0] 53)) := (Below.refl _ wr).alloc (Nat.le_refl _) _
        have d0 := cell_below b0 hbr
        have d1 := cell_below b1 hbr
        have d2 := cell_below b2 hbr
        have d3 := cell_below b3 hbr
        have f6 := (HE6.out.alloc (.cells #[.string sk, .string sd, .slice Ap2 m cp2, .slice none 0 0] 53))
        have f60 := f6.cell 0
        have f61 := f6.cell 1
        have f62 := f6.cell 2
        have f63 := f6.cell 3
        obtain ⟨W7, hW7⟩ : ∃ W7, (wr.alloc (.cells #[.string sk, .string sd, .slice Ap1 m cp1, .slice none 0 0] 53)).alloc (.cells #[.string sk, .string sd, .slice Ap2 m cp2, .slice none 0 0] 53) = W7 := ⟨_, rfl⟩
        have f7 : Has W7 (wr.heap.size + 1) 53 #[.string sk, .string sd, .slice Ap2 m cp2, .slice none 0 0] := hW7 ▸ (by have := Has.made (wr.alloc (.cells #[.string sk, .string sd, .slice Ap1 m cp1, .slice none 0 0] 53)) 53 #[.string sk, .string sd, .slice Ap2 m cp2, .slice none 0 0]; simpa using this)
        have HF6 := Lib.hid (hW7 ▸ f6)
        have HF7 := Lib.hid f7
        have HB7 : Hid (Below W.heap.size W W7) := Lib.hid (hW7 ▸ (hb.alloc hb.size _).alloc (by have := hb.size; simp; omega) _)
        have HW7 := Lib.hid hW7
        clear hW7 f6 f7 he1 he2 hm1 hm2 rp1 rp2 hpn hm hsk hsd hsk2 hsd2 kq dq hcp1 hcp2 hAp1 hAp2 hbr hXa hXb hb hkl
        go_wp2
        rw [HW7.out]
        obtain ⟨P6, hP6⟩ : ∃ P, wr.heap.size = P := ⟨_, rfl⟩
        obtain ⟨P7, hP7⟩ : ∃ P, P6 + 1 = P := ⟨_, rfl⟩
        rw [hP6] at HF6 HF7 ⊢
        rw [hP7] at HF7 ⊢
        clear hP6 hP7 a0 a1 a2 a3 b0 b1 b2 b3 d0 d1 d2 d3 f60 f61 f62 f63 c32 x22 HW7 HE6
        clear wr
        go_loopw [8] (fun i wq => ∃ q : Nat, q ≤ m ∧ i = .int .i64 (q : Int) ∧ Below W7.heap.size W7 wq) (fun i _ => m - (intOf i).toNat)
        case atStart => exact ⟨0, Nat.zero_le _, rfl, Below.refl _ _⟩
        case round =>
          obtain ⟨q, hq, rfl, hb2⟩ := hrel
          have g6 := HF6.out.below hb2 HF6.out.lt
          have g7 := HF7.out.below hb2 HF7.out.lt
          have y62 := g6.cell 2
          have y72 := g7.cell 2
          by_cases hql : q < m
          · have hBq := HB7.out.trans (hb2.mono HB7.out.size)
            obtain ⟨gp, op, hA1, z1⟩ := row_int (RP1.out.below hBq) (i := q) (by rw [HPG.out]; exact hql)
            obtain ⟨gq, oq, hA2, z2⟩ := row_int (RP2.out.below hBq) (i := q) (by rw [HPG.out]; exact hql)
            subst hA1 hA2
            have i2 : (0 : Int) ≤ (q : Int) := by omega
            have i3 : (q : Int) < (m : Int) := by omega
            obtain ⟨zz, hzz⟩ : ∃ z, pg[q]'(by rw [HPG.out]; exact hql) = z := ⟨_, rfl⟩
            rw [hzz] at z1 z2
            have HBW := Lib.hid hb2
            clear hzz hBq hb2 g6 g7
            go_wp2
            go_region
            go_wp2
            go_roundw
            case rel => exact ⟨q + 1, by omega, by go_num, HBW.out.drew⟩
            case measure => simp [intOf]; omega
          · have i3 : ¬ (q : Int) < (m : Int) := by omega
            have hS0 : Below W.heap.size W wr.drew ∧ wr.drew.cell? ⟨P6, 3, none⟩ = some (.slice none 0 0) ∧ wr.drew.cell? ⟨P7, 3, none⟩ = some (.slice none 0 0) := ⟨(HB7.out.trans (hb2.mono HB7.out.size)).drew, g6.cell 3, g7.cell 3⟩
            have HG6 := Lib.hid g6
            have HG7 := Lib.hid g7
            clear g6 g7 hb2
            go_wp2
            first | (rename_i K hK; refine wp_held (fun w' : World => Below W.heap.size W w' ∧ w'.cell? ⟨P6, 3, none⟩ = some (.slice none 0 0) ∧ w'.cell? ⟨P7, 3, none⟩ = some (.slice none 0 0)) K hmx ?_ (fun _ _ h => h)) | (rename_i K hK hz; refine wp_held (fun w' : World => Below W.heap.size W w' ∧ w'.cell? ⟨P6, 3, none⟩ = some (.slice none 0 0) ∧ w'.cell? ⟨P7, 3, none⟩ = some (.slice none 0 0)) K hmx ?_ (fun _ _ h => h))
            refine wpAnyH_take (i := 0) (v := .pointer (some ⟨P6, 3, none⟩)) (lit rfl) (by kernel_rfl) (by kernel_rfl) (by kernel_rfl) (fun _ _ _ h => h) (Or.inl ⟨by rfl, ?_⟩) hS0 ?_
            · rintro w6 ⟨s1, s2, s3⟩
              go_simp
            simp only [Act.put, List.setIfInBounds_toArray, List.set_cons_zero, List.set_cons_succ]
            refine wpAnyH_take (i := 1) (v := .slice none 0 0) (lit rfl) (by kernel_rfl) (by kernel_rfl) (by kernel_rfl) (fun _ _ _ h => h) (Or.inl ⟨by rfl, ?_⟩) hS0 ?_
            · rintro w6 ⟨s1, s2, s3⟩
              go_simp
            simp only [Act.put, List.setIfInBounds_toArray, List.set_cons_zero, List.set_cons_succ]
            refine wpAnyH_take (i := 2) (v := .int .i64 0) (lit rfl) (by kernel_rfl) (by kernel_rfl) (by kernel_rfl) (fun _ _ _ h => h) (Or.inl ⟨by rfl, ?_⟩) hS0 ?_
            · rintro w6 ⟨s1, s2, s3⟩
              go_simp
            simp only [Act.put, List.setIfInBounds_toArray, List.set_cons_zero, List.set_cons_succ]
            refine wpAnyH_take (i := 3) (v := .bool false) (lit rfl) (by kernel_rfl) (by kernel_rfl) (by kernel_rfl) (fun _ _ _ h => h) (Or.inl ⟨by rfl, ?_⟩) hS0 ?_
            · rintro w6 ⟨s1, s2, s3⟩
              go_simp
            simp only [Act.put, List.setIfInBounds_toArray, List.set_cons_zero, List.set_cons_succ]
            refine wpAnyH_take (i := 4) (v := .bool false) (lit rfl) (by kernel_rfl) (by kernel_rfl) (by kernel_rfl) (fun _ _ _ h => h) (Or.inl ⟨by rfl, ?_⟩) hS0 ?_
            · rintro w6 ⟨s1, s2, s3⟩
              go_simp
            simp only [Act.put, List.setIfInBounds_toArray, List.set_cons_zero, List.set_cons_succ]
            refine wpAnyH_take (i := 5) (v := undef) (lit rfl) (by kernel_rfl) (by kernel_rfl) (by kernel_rfl) (fun _ _ _ h => h) (Or.inr ⟨by rfl, rfl⟩) hS0 ?_
            simp only [Act.put, List.setIfInBounds_toArray, List.set_cons_zero, List.set_cons_succ]
            refine wpAnyH_take (i := 6) (v := undef) (lit rfl) (by kernel_rfl) (by kernel_rfl) (by kernel_rfl) (fun _ _ _ h => h) (Or.inr ⟨by rfl, rfl⟩) hS0 ?_
            simp only [Act.put, List.setIfInBounds_toArray, List.set_cons_zero, List.set_cons_succ]
            refine wpAnyH_take (i := 7) (v := undef) (lit rfl) (by kernel_rfl) (by kernel_rfl) (by kernel_rfl) (fun _ _ _ h => h) (Or.inr ⟨by rfl, rfl⟩) hS0 ?_
            simp only [Act.put, List.setIfInBounds_toArray, List.set_cons_zero, List.set_cons_succ]
            refine wpAnyH_take (i := 8) (v := undef) (lit rfl) (by kernel_rfl) (by kernel_rfl) (by kernel_rfl) (fun _ _ _ h => h) (Or.inr ⟨by rfl, rfl⟩) hS0 ?_
            simp only [Act.put, List.setIfInBounds_toArray, List.set_cons_zero, List.set_cons_succ]
            refine wpAnyH_take (i := 9) (v := undef) (lit rfl) (by kernel_rfl) (by kernel_rfl) (by kernel_rfl) (fun _ _ _ h => h) (Or.inr ⟨by rfl, rfl⟩) hS0 ?_
            simp only [Act.put, List.setIfInBounds_toArray, List.set_cons_zero, List.set_cons_succ]
            refine wpAnyH_take (i := 10) (v := undef) (lit rfl) (by kernel_rfl) (by kernel_rfl) (by kernel_rfl) (fun _ _ _ h => h) (Or.inr ⟨by rfl, rfl⟩) hS0 ?_
            simp only [Act.put, List.setIfInBounds_toArray, List.set_cons_zero, List.set_cons_succ]
            refine wpAnyH_take (i := 11) (v := undef) (lit rfl) (by kernel_rfl) (by kernel_rfl) (by kernel_rfl) (fun _ _ _ h => h) (Or.inr ⟨by rfl, rfl⟩) hS0 ?_
            simp only [Act.put, List.setIfInBounds_toArray, List.set_cons_zero, List.set_cons_succ]
            refine wpAnyH_take (i := 12) (v := undef) (lit rfl) (by kernel_rfl) (by kernel_rfl) (by kernel_rfl) (fun _ _ _ h => h) (Or.inr ⟨by rfl, rfl⟩) hS0 ?_
            simp only [Act.put, List.setIfInBounds_toArray, List.set_cons_zero, List.set_cons_succ]
            refine wpAnyH_take (i := 13) (v := undef) (lit rfl) (by kernel_rfl) (by kernel_rfl) (by kernel_rfl) (fun _ _ _ h => h) (Or.inr ⟨by rfl, rfl⟩) hS0 ?_
            simp only [Act.put, List.setIfInBounds_toArray, List.set_cons_zero, List.set_cons_succ]
            refine wpAnyH_take (i := 14) (v := undef) (lit rfl) (by kernel_rfl) (by kernel_rfl) (by kernel_rfl) (fun _ _ _ h => h) (Or.inr ⟨by rfl, rfl⟩) hS0 ?_
            simp only [Act.put, List.setIfInBounds_toArray, List.set_cons_zero, List.set_cons_succ]
            refine wpAnyH_take (i := 15) (v := .bool false) (lit rfl) (by kernel_rfl) (by kernel_rfl) (by kernel_rfl) (fun _ _ _ h => h) (Or.inl ⟨by rfl, ?_⟩) hS0 ?_
            · rintro w6 ⟨s1, s2, s3⟩
              go_simp
            simp only [Act.put, List.setIfInBounds_toArray, List.set_cons_zero, List.set_cons_succ]
            refine wpAnyH_done (by kernel_rfl) ?_ _
            refine hK _ _ ?_
            go_wp2
            go_roundw
            case rel => exact ⟨k + 1, by omega, by go_num, hS0.1⟩
            case measure => simp [intOf]; omega
      · have i1 : ¬ (k : Int) < (n2 : Int) := by omega
        have HFIN : Hid (Below w.heap.size w wr) := Lib.hid (below_step HB0.out hb)
        clear hXa hXb hb
        go_wp2
        go_ret
        exact ⟨rfl, hP2 ▸ HFIN.out⟩
  | hb p l ih =>
    intro F G a b w ha hb
    obtain ⟨pa1, pa2, ea, ra, ca⟩ := repN_iff.1 ha
    obtain ⟨pb1, pb2, eb, rb, cb⟩ := repN_iff.1 hb
    have ca' : Both (CellT F w) ea l := ca
    have cb' : Both (CellT G w) eb l := cb
    obtain ⟨p1, lf1, A1, n, c1⟩ := a
    obtain ⟨p2, lf2, A2, n2, c2⟩ := b
    simp only at pa1 pa2 pb1 pb2 ra rb
    have hl1 : lf1 = false := pa2
    have hl2 : lf2 = false := pb2
    have hp : p1 = p2 := by rw [pa1, pb1]
    have hn1 : n = l.length := by rw [ra.len4]; exact ca'.1
    have hn2 : n2 = n := by rw [rb.len4, hn1]; exact cb'.1
    subst hl1 hl2 hp hn2
    have hnm : n2 ≤ 9223372036854775807 := by have h1 := ra.room; have h2 := ra.most; unfold maxLen at h2; omega
    unfold nvV
    simp only
    obtain ⟨W, hW⟩ : ∃ W, (w.alloc (.cells #[.int .i64 p1, .bool false, .slice A1 n2 c1] 33)).alloc (.cells #[.int .i64 p1, .bool false, .slice A2 n2 c2] 33) = W := ⟨_, rfl⟩
    have hB0 : Below w.heap.size w W := hW ▸ ((Below.refl _ w).alloc (Nat.le_refl _) _).alloc (by simp) _
    have hX2 : Has W w.heap.size 33 #[.int .i64 p1, .bool false, .slice A1 n2 c1] := hW ▸ (Has.made w 33 _).alloc _
    have hX3 : Has W (w.heap.size + 1) 33 #[.int .i64 p1, .bool false, .slice A2 n2 c2] := hW ▸ (by have := Has.made (w.alloc (.cells #[.int .i64 p1, .bool false, .slice A1 n2 c1] 33)) 33 #[.int .i64 p1, .bool false, .slice A2 n2 c2]; simpa using this)
    have HRA := Lib.hid (ra.below hB0)
    have HRB := Lib.hid (rb.below hB0)
    have HCA := Lib.hid ca'
    have HCB := Lib.hid cb'
    have HNL := Lib.hid hn1
    have HLA := Lib.hid ra.len4
    have HLB := Lib.hid rb.len4
    obtain ⟨P2, hP2⟩ : ∃ P, w.heap.size = P := ⟨_, rfl⟩
    obtain ⟨P3, hP3⟩ : ∃ P, P2 + 1 = P := ⟨_, rfl⟩
    rw [hP2] at hX2
    rw [hP2, hP3] at hX3
    have HX2 := Lib.hid hX2
    have HX3 := Lib.hid hX3
    have HB0 := Lib.hid hB0
    have x20 := hX2.cell 0
    have x21 := hX2.cell 1
    have x22 := hX2.cell 2
    have x30 := hX3.cell 0
    have x31 := hX3.cell 1
    have x32 := hX3.cell 2
    have HP3 := Lib.hid hP3
    have hmx : Try.prog.follows .mixedOrders = true := by kernel_rfl
    have HIH := Lib.hid ih
    clear ha hb pa1 pa2 pb1 pb2 ra rb ca cb ca' cb' hn1 hX2 hX3 hB0 ih
    go_enter Try.func15, Try.ntmps15
    go_wp2
    try rw [hP2]
    try rw [HP3.out]
    clear hW x20 x21 x22 x30 x31 x32 hP3
    go_loopw [5] (fun i wr => ∃ k : Nat, k ≤ n2 ∧ i = .int .i64 (k : Int) ∧ Below W.heap.size W wr) (fun i _ => n2 - (intOf i).toNat)
    case atStart => exact ⟨0, Nat.zero_le _, rfl, Below.refl _ _⟩
    case round =>
      obtain ⟨k, hk, rfl, hb⟩ := hrel
      have hXa := HX2.out.below hb HX2.out.lt
      have hXb := HX3.out.below hb HX3.out.lt
      have x22 := hXa.cell 2
      by_cases hlt : k < n2
      · have hkl : k < l.length := by rw [← HNL.out]; exact hlt
        obtain ⟨e1, he1, hr1⟩ := HCA.out.at_ (List.getElem?_eq_getElem hkl)
        obtain ⟨e2, he2, hr2⟩ := HCB.out.at_ (List.getElem?_eq_getElem hkl)
        obtain ⟨ga, oa, hA, hFa, a0, a1, a2, a3⟩ := (HRA.out.below hb).at4 he1
        obtain rfl := hA
        obtain ⟨gb, ob, hA, hFb, b0, b1, b2, b3⟩ := (HRB.out.below hb).at4 he2
        obtain rfl := hA
        obtain ⟨v1, ⟨⟨k1, d1, q1a, q1b, q1c⟩, n1, kr1⟩, hrep1⟩ := hr1
        obtain ⟨v2, ⟨⟨k2, d2, q2a, q2b, q2c⟩, n2', kr2⟩, hrep2⟩ := hr2
        obtain ⟨g1, o1, hk1, _, hc1⟩ := kr1.reads (by simp [nvL])
        obtain ⟨g2, o2, hk2, _, hc2⟩ := kr2.reads (by simp [nvL])
        rw [hk1, n1] at a3
        rw [hk2, n2'] at b3
        have u0 := hc1 0 _ rfl
        have u1 := hc1 1 _ rfl
        have u2 := hc1 2 _ rfl
        have v0 := hc2 0 _ rfl
        have v1' := hc2 1 _ rfl
        have v2' := hc2 2 _ rfl
        simp only [Nat.add_zero] at u0 v0
        obtain ⟨c1k, hc1k⟩ : ∃ c, e1.kc = c := ⟨_, rfl⟩
        obtain ⟨c2k, hc2k⟩ : ∃ c, e2.kc = c := ⟨_, rfl⟩
        rw [hc1k] at a3
        rw [hc2k] at b3
        have kq : e2.k = e1.k := by rw [k1, k2]
        have dq : e2.d = e1.d := by rw [d1, d2]
        have rp1 : RwF F w e1.pa e1.pn e1.pc 1 (([] : List Int).map (Value.int .i64)) := by rw [q1a, q1b, q1c]; exact RwF.none_ _ _ _
        have rp2 : RwF G w e2.pa e2.pn e2.pc 1 (([] : List Int).map (Value.int .i64)) := by rw [q2a, q2b, q2c]; exact RwF.none_ _ _ _
        obtain ⟨pg, hpg⟩ : ∃ q : List Int, [] = q := ⟨_, rfl⟩
        rw [hpg] at rp1 rp2
        have HU : Hid (∀ w' : World, Below W.heap.size W w' → w'.cell? ⟨g1, o1, none⟩ = some (.int .i64 v1.p) ∧ w'.cell? ⟨g1, o1 + 1, none⟩ = some (.bool v1.lf) ∧ w'.cell? ⟨g1, o1 + 2, none⟩ = some (.slice v1.A v1.n v1.c)) := Lib.hid (fun w' hb => have h := below_step HB0.out hb; ⟨cell_below u0 h, cell_below u1 h, cell_below u2 h⟩)
        have HV : Hid (∀ w' : World, Below W.heap.size W w' → w'.cell? ⟨g2, o2, none⟩ = some (.int .i64 v2.p) ∧ w'.cell? ⟨g2, o2 + 1, none⟩ = some (.bool v2.lf) ∧ w'.cell? ⟨g2, o2 + 2, none⟩ = some (.slice v2.A v2.n v2.c)) := Lib.hid (fun w' hb => have h := below_step HB0.out hb; ⟨cell_below v0 h, cell_below v1' h, cell_below v2' h⟩)
        have HSM : Hid (∀ w' : World, Below W.heap.size W w' → Calls Try.prog 15 #[.agg #[.int .i64 v1.p, .bool v1.lf, .slice v1.A v1.n v1.c], .agg #[.int .i64 v2.p, .bool v2.lf, .slice v2.A v2.n v2.c]] w' fun e w'' => e = .returned (.bool true) ∧ Below w'.heap.size w' w'') := Lib.hid (fun w' hb => have h := below_step HB0.out hb; HIH.out _ (List.getElem_mem hkl) F G v1 v2 w' (hrep1.stay h) (hrep2.stay h))
        clear n1 n2' q1a q1b q1c q2a q2b q2c k1 k2 d1 d2 hpg u0 u1 u2 v0 v1' v2' hc1 hc2 hk1 hk2 hc1k hc2k hrep1 hrep2 kr1 kr2
        have hm1 := rp1.len
        have hm2 := rp2.len
        rw [List.length_map, Nat.mul_one] at hm1 hm2
        have hpnm : e1.pn ≤ 9223372036854775807 := by have h1 := rp1.room; have h2 := rp1.most; unfold maxLen at h2; omega
        have RP1 := Lib.hid (rp1.below HB0.out)
        have RP2 := Lib.hid (rp2.below HB0.out)
        have hpn : e2.pn = e1.pn := by omega
        rw [hpn] at b2
        obtain ⟨m, hm⟩ : ∃ m, e1.pn = m := ⟨_, rfl⟩
        rw [hm] at a2 b2 hpnm
        have HPG : Hid (pg.length = m) := Lib.hid (by omega)
        have hsk : (⟨e2.k.toArray⟩ : ByteArray) = ⟨e1.k.toArray⟩ := by rw [kq]
        have hsd : (⟨e2.d.toArray⟩ : ByteArray) = ⟨e1.d.toArray⟩ := by rw [dq]
        rw [hsk] at b0
        rw [hsd] at b1
        obtain ⟨sk, hsk2⟩ : ∃ s : ByteArray, (⟨e1.k.toArray⟩ : ByteArray) = s := ⟨_, rfl⟩
        obtain ⟨sd, hsd2⟩ : ∃ s : ByteArray, (⟨e1.d.toArray⟩ : ByteArray) = s := ⟨_, rfl⟩
        rw [hsk2] at a0 b0
        rw [hsd2] at a1 b1
        have i0 : (0 : Int) ≤ (k : Int) := by omega
        have i1 : (k : Int) < (n2 : Int) := by omega
        obtain ⟨cp1, hcp1⟩ : ∃ c, e1.pc = c := ⟨_, rfl⟩
        obtain ⟨cp2, hcp2⟩ : ∃ c, e2.pc = c := ⟨_, rfl⟩
        obtain ⟨Ap1, hAp1⟩ : ∃ c, e1.pa = c := ⟨_, rfl⟩
        obtain ⟨Ap2, hAp2⟩ : ∃ c, e2.pa = c := ⟨_, rfl⟩
        rw [hcp1, hAp1] at a2
        rw [hcp2, hAp2] at b2
        rw [hAp1] at RP1
        rw [hAp2] at RP2
        have HE6 : Hid (Has (wr.alloc (.cells #[.string sk, .string sd, .slice Ap1 m cp1, .slice (some ⟨g1, o1, none⟩) 1 c1k] 53)) wr.heap.size 53 #[.string sk, .string sd, .slice Ap1 m cp1, .slice (some ⟨g1, o1, none⟩) 1 c1k]) := Lib.hid (Has.made wr 53 _)
        have c32 := (hXb.alloc (.cells #[.string sk, .string sd, .slice Ap1 m cp1, .slice (some ⟨g1, o1, none⟩) 1 c1k] 53)).cell 2
        have hbr : Below wr.heap.size wr (wr.alloc (.cells #[.string sk, .string sd, .slice Ap1 m cp1, .slice (some ⟨g1, o1, none⟩) 1 c1k] 53)) := (Below.refl _ wr).alloc (Nat.le_refl _) _
        have d0 := cell_below b0 hbr
        have d1 := cell_below b1 hbr
        have d2 := cell_below b2 hbr
        have d3 := cell_below b3 hbr
        have f6 := (HE6.out.alloc (.cells #[.string sk, .string sd, .slice Ap2 m cp2, .slice (some ⟨g2, o2, none⟩) 1 c2k] 53))
        have f60 := f6.cell 0
        have f61 := f6.cell 1
        have f62 := f6.cell 2
        have f63 := f6.cell 3
        obtain ⟨W7, hW7⟩ : ∃ W7, (wr.alloc (.cells #[.string sk, .string sd, .slice Ap1 m cp1, .slice (some ⟨g1, o1, none⟩) 1 c1k] 53)).alloc (.cells #[.string sk, .string sd, .slice Ap2 m cp2, .slice (some ⟨g2, o2, none⟩) 1 c2k] 53) = W7 := ⟨_, rfl⟩
        have f7 : Has W7 (wr.heap.size + 1) 53 #[.string sk, .string sd, .slice Ap2 m cp2, .slice (some ⟨g2, o2, none⟩) 1 c2k] := hW7 ▸ (by have := Has.made (wr.alloc (.cells #[.string sk, .string sd, .slice Ap1 m cp1, .slice (some ⟨g1, o1, none⟩) 1 c1k] 53)) 53 #[.string sk, .string sd, .slice Ap2 m cp2, .slice (some ⟨g2, o2, none⟩) 1 c2k]; simpa using this)
        have HF6 := Lib.hid (hW7 ▸ f6)
        have HF7 := Lib.hid f7
        have HB7 : Hid (Below W.heap.size W W7) := Lib.hid (hW7 ▸ (hb.alloc hb.size _).alloc (by have := hb.size; simp; omega) _)
        have HW7 := Lib.hid hW7
        clear hW7 f6 f7 he1 he2 hm1 hm2 rp1 rp2 hpn hm hsk hsd hsk2 hsd2 kq dq hcp1 hcp2 hAp1 hAp2 hbr hXa hXb hb hkl
        go_wp2
        rw [HW7.out]
        obtain ⟨P6, hP6⟩ : ∃ P, wr.heap.size = P := ⟨_, rfl⟩
        obtain ⟨P7, hP7⟩ : ∃ P, P6 + 1 = P := ⟨_, rfl⟩
        rw [hP6] at HF6 HF7 ⊢
        rw [hP7] at HF7 ⊢
        clear hP6 hP7 a0 a1 a2 a3 b0 b1 b2 b3 d0 d1 d2 d3 f60 f61 f62 f63 c32 x22 HW7 HE6
        clear wr
        go_loopw [8] (fun i wq => ∃ q : Nat, q ≤ m ∧ i = .int .i64 (q : Int) ∧ Below W7.heap.size W7 wq) (fun i _ => m - (intOf i).toNat)
        case atStart => exact ⟨0, Nat.zero_le _, rfl, Below.refl _ _⟩
        case round =>
          obtain ⟨q, hq, rfl, hb2⟩ := hrel
          have g6 := HF6.out.below hb2 HF6.out.lt
          have g7 := HF7.out.below hb2 HF7.out.lt
          have y62 := g6.cell 2
          have y72 := g7.cell 2
          by_cases hql : q < m
          · have hBq := HB7.out.trans (hb2.mono HB7.out.size)
            obtain ⟨gp, op, hA1, z1⟩ := row_int (RP1.out.below hBq) (i := q) (by rw [HPG.out]; exact hql)
            obtain ⟨gq, oq, hA2, z2⟩ := row_int (RP2.out.below hBq) (i := q) (by rw [HPG.out]; exact hql)
            subst hA1 hA2
            have i2 : (0 : Int) ≤ (q : Int) := by omega
            have i3 : (q : Int) < (m : Int) := by omega
            obtain ⟨zz, hzz⟩ : ∃ z, pg[q]'(by rw [HPG.out]; exact hql) = z := ⟨_, rfl⟩
            rw [hzz] at z1 z2
            have HBW := Lib.hid hb2
            clear hzz hBq hb2 g6 g7
            go_wp2
            go_region
            go_wp2
            go_roundw
            case rel => exact ⟨q + 1, by omega, by go_num, HBW.out.drew⟩
            case measure => simp [intOf]; omega
          · have i3 : ¬ (q : Int) < (m : Int) := by omega
            have hS0 : Below W.heap.size W wr.drew ∧ wr.drew.cell? ⟨P6, 3, none⟩ = some (.slice (some ⟨g1, o1, none⟩) 1 c1k) ∧ wr.drew.cell? ⟨P7, 3, none⟩ = some (.slice (some ⟨g2, o2, none⟩) 1 c2k) := ⟨(HB7.out.trans (hb2.mono HB7.out.size)).drew, g6.cell 3, g7.cell 3⟩
            have HG6 := Lib.hid g6
            have HG7 := Lib.hid g7
            clear g6 g7 hb2
            go_wp2
            first | (rename_i K hK; refine wp_held (fun w' : World => Below W.heap.size W w' ∧ w'.cell? ⟨P6, 3, none⟩ = some (.slice (some ⟨g1, o1, none⟩) 1 c1k) ∧ w'.cell? ⟨P7, 3, none⟩ = some (.slice (some ⟨g2, o2, none⟩) 1 c2k)) K hmx ?_ (fun _ _ h => h)) | (rename_i K hK hz; refine wp_held (fun w' : World => Below W.heap.size W w' ∧ w'.cell? ⟨P6, 3, none⟩ = some (.slice (some ⟨g1, o1, none⟩) 1 c1k) ∧ w'.cell? ⟨P7, 3, none⟩ = some (.slice (some ⟨g2, o2, none⟩) 1 c2k)) K hmx ?_ (fun _ _ h => h))
            refine wpAnyH_take (i := 0) (v := .pointer (some ⟨P6, 3, none⟩)) (lit rfl) (by kernel_rfl) (by kernel_rfl) (by kernel_rfl) (fun _ _ _ h => h) (Or.inl ⟨by rfl, ?_⟩) hS0 ?_
            · rintro w6 ⟨s1, s2, s3⟩
              go_simp
            simp only [Act.put, List.setIfInBounds_toArray, List.set_cons_zero, List.set_cons_succ]
            refine wpAnyH_take (i := 1) (v := .slice (some ⟨g1, o1, none⟩) 1 c1k) (lit rfl) (by kernel_rfl) (by kernel_rfl) (by kernel_rfl) (fun _ _ _ h => h) (Or.inl ⟨by rfl, ?_⟩) hS0 ?_
            · rintro w6 ⟨s1, s2, s3⟩
              go_simp
            simp only [Act.put, List.setIfInBounds_toArray, List.set_cons_zero, List.set_cons_succ]
            refine wpAnyH_take (i := 2) (v := .int .i64 1) (lit rfl) (by kernel_rfl) (by kernel_rfl) (by kernel_rfl) (fun _ _ _ h => h) (Or.inl ⟨by rfl, ?_⟩) hS0 ?_
            · rintro w6 ⟨s1, s2, s3⟩
              go_simp
            simp only [Act.put, List.setIfInBounds_toArray, List.set_cons_zero, List.set_cons_succ]
            refine wpAnyH_take (i := 3) (v := .bool true) (lit rfl) (by kernel_rfl) (by kernel_rfl) (by kernel_rfl) (fun _ _ _ h => h) (Or.inl ⟨by rfl, ?_⟩) hS0 ?_
            · rintro w6 ⟨s1, s2, s3⟩
              go_simp
            simp only [Act.put, List.setIfInBounds_toArray, List.set_cons_zero, List.set_cons_succ]
            refine wpAnyH_take (i := 4) (v := .bool true) (lit rfl) (by kernel_rfl) (by kernel_rfl) (by kernel_rfl) (fun _ _ _ h => h) (Or.inl ⟨by rfl, ?_⟩) hS0 ?_
            · rintro w6 ⟨s1, s2, s3⟩
              go_simp
            simp only [Act.put, List.setIfInBounds_toArray, List.set_cons_zero, List.set_cons_succ]
            refine wpAnyH_take (i := 5) (v := .pointer (some ⟨P6, 3, none⟩)) (lit rfl) (by kernel_rfl) (by kernel_rfl) (by kernel_rfl) (fun _ _ _ h => h) (Or.inl ⟨by rfl, ?_⟩) hS0 ?_
            · rintro w6 ⟨s1, s2, s3⟩
              go_simp
            simp only [Act.put, List.setIfInBounds_toArray, List.set_cons_zero, List.set_cons_succ]
            refine wpAnyH_take (i := 6) (v := .slice (some ⟨g1, o1, none⟩) 1 c1k) (lit rfl) (by kernel_rfl) (by kernel_rfl) (by kernel_rfl) (fun _ _ _ h => h) (Or.inl ⟨by rfl, ?_⟩) hS0 ?_
            · rintro w6 ⟨s1, s2, s3⟩
              go_simp
            simp only [Act.put, List.setIfInBounds_toArray, List.set_cons_zero, List.set_cons_succ]
            refine wpAnyH_take (i := 7) (v := .pointer (some ⟨g1, o1, none⟩)) (lit rfl) (by kernel_rfl) (by kernel_rfl) (by kernel_rfl) (fun _ _ _ h => h) (Or.inl ⟨by rfl, ?_⟩) hS0 ?_
            · rintro w6 ⟨s1, s2, s3⟩
              go_simp
            simp only [Act.put, List.setIfInBounds_toArray, List.set_cons_zero, List.set_cons_succ]
            refine wpAnyH_take (i := 8) (v := .agg #[.int .i64 v1.p, .bool v1.lf, .slice v1.A v1.n v1.c]) (lit rfl) (by kernel_rfl) (by kernel_rfl) (by kernel_rfl) (fun _ _ _ h => h) (Or.inl ⟨by rfl, ?_⟩) hS0 ?_
            · rintro w6 ⟨s1, s2, s3⟩
              obtain ⟨y60, y61, y62⟩ := HU.out w6 s1
              go_simp
            simp only [Act.put, List.setIfInBounds_toArray, List.set_cons_zero, List.set_cons_succ]
            refine wpAnyH_take (i := 9) (v := .pointer (some ⟨P7, 3, none⟩)) (lit rfl) (by kernel_rfl) (by kernel_rfl) (by kernel_rfl) (fun _ _ _ h => h) (Or.inl ⟨by rfl, ?_⟩) hS0 ?_
            · rintro w6 ⟨s1, s2, s3⟩
              go_simp
            simp only [Act.put, List.setIfInBounds_toArray, List.set_cons_zero, List.set_cons_succ]
            refine wpAnyH_take (i := 10) (v := .slice (some ⟨g2, o2, none⟩) 1 c2k) (lit rfl) (by kernel_rfl) (by kernel_rfl) (by kernel_rfl) (fun _ _ _ h => h) (Or.inl ⟨by rfl, ?_⟩) hS0 ?_
            · rintro w6 ⟨s1, s2, s3⟩
              go_simp
            simp only [Act.put, List.setIfInBounds_toArray, List.set_cons_zero, List.set_cons_succ]
            refine wpAnyH_take (i := 11) (v := .pointer (some ⟨g2, o2, none⟩)) (lit rfl) (by kernel_rfl) (by kernel_rfl) (by kernel_rfl) (fun _ _ _ h => h) (Or.inl ⟨by rfl, ?_⟩) hS0 ?_
            · rintro w6 ⟨s1, s2, s3⟩
              go_simp
            simp only [Act.put, List.setIfInBounds_toArray, List.set_cons_zero, List.set_cons_succ]
            refine wpAnyH_take (i := 12) (v := .agg #[.int .i64 v2.p, .bool v2.lf, .slice v2.A v2.n v2.c]) (lit rfl) (by kernel_rfl) (by kernel_rfl) (by kernel_rfl) (fun _ _ _ h => h) (Or.inl ⟨by rfl, ?_⟩) hS0 ?_
            · rintro w6 ⟨s1, s2, s3⟩
              obtain ⟨y60, y61, y62⟩ := HV.out w6 s1
              go_simp
            simp only [Act.put, List.setIfInBounds_toArray, List.set_cons_zero, List.set_cons_succ]
            refine wpAnyH_ready (rs := [13]) (by kernel_rfl) (by simp) ?_
            refine AllReadyH.cons (lit rfl) (fun K5 hK5 => ?_) AllReadyH.nil
            go_simp
            go_at_call 15
            (with_reducible refine (HSM.out _ hS0.1).mono ?_)
            rintro e7 w7 ⟨rfl, b7⟩
            have hS1 : Below W.heap.size W w7 ∧ w7.cell? ⟨P6, 3, none⟩ = some (.slice (some ⟨g1, o1, none⟩) 1 c1k) ∧ w7.cell? ⟨P7, 3, none⟩ = some (.slice (some ⟨g2, o2, none⟩) 1 c2k) := ⟨hS0.1.trans (b7.mono hS0.1.size), cell_below hS0.2.1 b7, cell_below hS0.2.2 b7⟩
            clear b7 hS0
            refine hK5.out _ _ hS1 (fun _ => ?_)
            clear hK5 K5
            refine wpAnyH_take (i := 14) (v := .bool false) (lit rfl) (by kernel_rfl) (by kernel_rfl) (by kernel_rfl) (fun _ _ _ h => h) (Or.inl ⟨by rfl, ?_⟩) hS1 ?_
            · rintro w6 ⟨s1, s2, s3⟩
              go_simp
            simp only [Act.put, List.setIfInBounds_toArray, List.set_cons_zero, List.set_cons_succ]
            refine wpAnyH_take (i := 15) (v := .bool false) (lit rfl) (by kernel_rfl) (by kernel_rfl) (by kernel_rfl) (fun _ _ _ h => h) (Or.inl ⟨by rfl, ?_⟩) hS1 ?_
            · rintro w6 ⟨s1, s2, s3⟩
              go_simp
            simp only [Act.put, List.setIfInBounds_toArray, List.set_cons_zero, List.set_cons_succ]
            refine wpAnyH_done (by kernel_rfl) ?_ _
            refine hK _ _ ?_
            go_wp2
            go_roundw
            case rel => exact ⟨k + 1, by omega, by go_num, hS1.1⟩
            case measure => simp [intOf]; omega
      · have i1 : ¬ (k : Int) < (n2 : Int) := by omega
        have HFIN : Hid (Below w.heap.size w wr) := Lib.hid (below_step HB0.out hb)
        clear hXa hXb hb
        go_wp2
        go_ret
        exact ⟨rfl, hP2 ▸ HFIN.out⟩
end Go.Proofs.Ytclaiigelgbpdaa
