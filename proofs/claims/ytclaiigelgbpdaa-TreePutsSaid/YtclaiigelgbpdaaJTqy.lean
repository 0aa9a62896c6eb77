import Derived.Test.YtclaiigelgbpdaaJ26
import Derived.Test.YtclaiigelgbpdaaJ21
import Derived.Test.YtclaiigelgbpdaaJTpf
import Derived.Test.YtclaiigelgbpdaaJ01
import Derived.Test.YtclaiigelgbpdaaJ13
import Derived.Deep.Cut
/- Of a claim's texts, joined: Tqy. No statement but in the last. -/
namespace Go.Proofs.Ytclaiigelgbpdaa
open Go.RowKit
set_option linter.unusedVariables false

def cP (x : PA) : Lf := ⟨x.k, valP x, []⟩
theorem cP_ok {x : PA} (h : okP15 x = true) : okLf (cP x) ∧ 0 ≤ x.z ∧ x.z ≤ 400 := by
  unfold okP15 at h
  simp only [Bool.and_eq_true, decide_eq_true_eq, bne_iff_ne, ne_eq] at h
  obtain ⟨⟨⟨h1, h2⟩, h3⟩, h4⟩ := h
  refine ⟨⟨?_, h2, ?_, fun h => absurd rfl h⟩, h3, h4⟩
  · exact List.length_pos_iff.2 h1
  · show (valP x).length ≤ 400
    unfold valP
    rw [List.length_replicate]
    omega
structure PutsI (w W : World) (P7 P8 : Nat) (m : Nat) (t : Tr) (z : NDV) (v : NV) : Prop where
  b7 : Has W P7 29 #[.int .i64 z.p, .bool z.lf, .slice z.kA z.kn z.kc, .slice z.vA z.vn z.vc, .slice z.dA z.dn z.dc]
  b8 : Has W P8 33 #[.int .i64 v.p, .bool v.lf, .slice v.A v.n v.c]
  rt : RepT (fun q => q ≠ P7 ∧ q ≠ P8) W z t
  rn : RepN (fun q => q ≠ P7 ∧ q ≠ P8) W v t
  gd : GdT m t
  ne : t = .leaf 0 [] ∨ entT t ≠ []
  bl : Below w.heap.size w W
theorem PutsI.below {w W W' : World} {P7 P8 m : Nat} {t : Tr} {z : NDV} {v : NV} (h : PutsI w W P7 P8 m t z v) (hb : Below W.heap.size W W') : PutsI w W' P7 P8 m t z v :=
  ⟨h.b7.below hb h.b7.lt, h.b8.below hb h.b8.lt, h.rt.stay hb, h.rn.stay hb, h.gd, h.ne, below_step h.bl hb⟩
set_option maxRecDepth 100000 in
set_option maxHeartbeats 16000000 in
theorem walkTreePuts (l : List PA) (A : Option Addr) (n c : Nat) (key : List UInt8) (W : World) (h : RowP W A n c l) :
    Calls Try.prog 3 #[.slice A n c, .string ⟨key.toArray⟩] W fun e W' => e = .returned (.bool true) ∧ Below W.heap.size W W' := by
  have HAW := Lib.hid (awake15_any W)
  have HSM := Lib.hid (fun w1 (b1 : Below W.heap.size W w1) => small15_any l A n c w1 (h.below b1))
  have HR := Lib.hid h
  have HN := Lib.hid h.len
  have hmx : Try.prog.follows .mixedOrders = true := by kernel_rfl
  obtain ⟨sx, hsx⟩ : ∃ s : ByteArray, (⟨key.toArray⟩ : ByteArray) = s := ⟨_, rfl⟩
  obtain ⟨kl, hkl⟩ : ∃ kl, key.length = kl := ⟨_, rfl⟩
  have hsz : sx.size = kl := by rw [← hsx, ← hkl]; exact size_list _
  have HSX := Lib.hid hsx
  rw [hsx]
  obtain ⟨sm, hsm⟩ : ∃ b, smallP l = b := ⟨_, rfl⟩
  rw [hsm] at HSM
  clear h hsx hkl
  cases sm
  · clear hsm
    go_enter Try.func3, Try.ntmps3
    go_wp2_with (first
      | (go_at_call 8; (with_reducible refine (HAW.out).mono ?_); rintro e1 w1 ⟨rfl, b1⟩; have B1 := Lib.hid b1; clear b1)
      | (go_at_call 9; (with_reducible refine (HSM.out _ B1.out).mono ?_); rintro e2 w2 ⟨rfl, rfl⟩))
    go_ret
    exact ⟨rfl, B1.out⟩
  by_cases hk100 : 100 < kl
  · have hk1 : (100 : Int) < (kl : Int) := by omega
    clear hsm
    go_enter Try.func3, Try.ntmps3
    go_wp2_with (first
      | (go_at_call 8; (with_reducible refine (HAW.out).mono ?_); rintro e1 w1 ⟨rfl, b1⟩; have B1 := Lib.hid b1; clear b1)
      | (go_at_call 9; (with_reducible refine (HSM.out _ B1.out).mono ?_); rintro e2 w2 ⟨rfl, rfl⟩))
    go_ret
    exact ⟨rfl, B1.out⟩
  have hk1 : ¬ (100 : Int) < (kl : Int) := by omega
  have hsm2 : (∀ x ∈ l, okP15 x = true) ∧ l.length ≤ 80 := by
    unfold smallP at hsm
    simp only [Bool.and_eq_true, decide_eq_true_eq, List.all_eq_true] at hsm
    exact hsm
  have HOK := Lib.hid hsm2.1
  have hn80 : n ≤ 80 := by rw [HN.out]; exact hsm2.2
  have HEM := Lib.hid (fun w1 => trEmpty_any w1)
  have HRE := Lib.hid (fun w1 => r15Empty_any (fun _ => False) w1)
  clear hsm hsm2
  go_enter Try.func3, Try.ntmps3
  go_wp2_with (first
    | (go_at_call 8; (with_reducible refine (HAW.out).mono ?_); rintro e1 w1 ⟨rfl, b1⟩; have B1 := Lib.hid b1; clear b1)
    | (go_at_call 9; (with_reducible refine (HSM.out _ B1.out).mono ?_); rintro e2 w2 ⟨rfl, rfl⟩)
    | (go_at_call 10; (with_reducible refine (HEM.out _).mono ?_); rintro e3 w3 ⟨⟨p1, lf1, kA1, kn1, kc1, vA1, vn1, vc1, dA1, dn1, dc1⟩, rfl, r3, b3⟩; unfold ndV; simp only; obtain ⟨W3, hW3⟩ : ∃ x, w3.alloc (.cells #[.int .i64 p1, .bool lf1, .slice kA1 kn1 kc1, .slice vA1 vn1 vc1, .slice dA1 dn1 dc1] 29) = x := ⟨_, rfl⟩; have c3 : Below w3.heap.size w3 W3 := hW3 ▸ (Below.refl _ w3).alloc (Nat.le_refl _) _; have X7 : Hid (Has W3 w3.heap.size 29 #[.int .i64 p1, .bool lf1, .slice kA1 kn1 kc1, .slice vA1 vn1 vc1, .slice dA1 dn1 dc1]) := Lib.hid (hW3 ▸ Has.made w3 29 _); have R3 := Lib.hid (RepT.stay (RepT.old r3) c3); have B3 := Lib.hid (below_step B1.out (below_step b3 c3)); have H13 : Hid (w1.heap.size ≤ w3.heap.size) := Lib.hid b3.size; clear r3 b3 c3)
    | (go_at_call 11; (with_reducible refine (HRE.out _).mono ?_); rintro e4 w4 ⟨⟨q, qf, qA, qn, qc⟩, rfl, r4, b4⟩; unfold nvV; simp only; have R4 := Lib.hid r4; have B4 := Lib.hid b4; clear r4 b4))
  obtain ⟨W4, hW4⟩ : ∃ x, w4.alloc (.cells #[.int .i64 q, .bool qf, .slice qA qn qc] 33) = x := ⟨_, rfl⟩
  have c4 : Below w4.heap.size w4 W4 := hW4 ▸ (Below.refl _ w4).alloc (Nat.le_refl _) _
  have X8 : Has W4 w4.heap.size 33 #[.int .i64 q, .bool qf, .slice qA qn qc] := hW4 ▸ Has.made w4 33 _
  rw [hW4]
  obtain ⟨P7, hP7⟩ : ∃ P, w3.heap.size = P := ⟨_, rfl⟩
  obtain ⟨P8, hP8⟩ : ∃ P, w4.heap.size = P := ⟨_, rfl⟩
  have hX7 := X7.out
  rw [hP7] at hX7
  have h78 : P7 < P8 := by have h1 := hX7.lt; have h2 := B4.out.size; omega
  have hW7 : W.heap.size ≤ P7 := by have h1 := B1.out.size; have h2 := H13.out; omega
  have hI0 : PutsI W W4 P7 P8 0 (.leaf 0 []) ⟨p1, lf1, kA1, kn1, kc1, vA1, vn1, vc1, dA1, dn1, dc1⟩ ⟨q, qf, qA, qn, qc⟩ := ⟨(hX7.below (below_step B4.out c4) hX7.lt), hP8 ▸ X8, RepT.mono (RepT.stay R3.out (below_step B4.out c4)) (fun g hg => ⟨by have := hg.2; omega, by have := hg.2; omega⟩), RepN.mono (RepN.stay (RepN.old R4.out) c4) (fun g hg => by
    have h2 := hg.2
    have h3 := hX7.lt
    rcases hg.1 with h | h
    · exact absurd h (fun h => h)
    · exact ⟨by omega, by omega⟩), gd_empty 0, .inl rfl, below_step B3.out (below_step B4.out c4)⟩
  try rw [hP7]
  try rw [hP8]
  have HI0 := Lib.hid hI0
  have HORD : Hid (W.heap.size ≤ P7 ∧ P7 < P8) := Lib.hid ⟨hW7, h78⟩
  clear hI0 hW7 h78 hX7 hP7 hP8 X8 c4 hW4 hW3 X7 R3 R4 B3 B4 H13 B1
  clear w4
  go_loopw [9] (fun i wr => ∃ (k : Nat) (t : Tr) (z : NDV) (v : NV), k ≤ n ∧ i = .int .i64 (k : Int) ∧ PutsI W wr P7 P8 k t z v) (fun i _ => n - (intOf i).toNat)
  case atStart => exact ⟨0, _, _, _, Nat.zero_le _, rfl, HI0.out⟩
  case round =>
    obtain ⟨k, t, ⟨p1, lf1, kA1, kn1, kc1, vA1, vn1, vc1, dA1, dn1, dc1⟩, ⟨q, qf, qA, qn, qc⟩, hkk, rfl, hI⟩ := hrel
    have HI := Lib.hid hI
    have HX7 := Lib.hid hI.b7
    have HX8 := Lib.hid hI.b8
    by_cases hlt : k < n
    · obtain ⟨x, hx⟩ : ∃ x, l[k]? = some x := ⟨_, List.getElem?_eq_getElem (by rw [← HN.out]; exact hlt)⟩
      have hox := cP_ok (HOK.out x (List.mem_of_getElem? hx))
      obtain ⟨gl, offl, rfl, a0, a1, a2⟩ := (HR.out.below hI.bl).at3 hx
      obtain ⟨gl', offl', hgg, a0', _, _⟩ := HR.out.at3 hx
      injection hgg with hgg
      injection hgg with hg1 hg2 _
      subst hg1 hg2
      have hgl : gl < W.heap.size := World.block_lt_of_cell? W _ a0'
      obtain ⟨sk, hsk⟩ : ∃ s : ByteArray, (⟨x.k.toArray⟩ : ByteArray) = s := ⟨_, rfl⟩
      obtain ⟨sv, hsv⟩ : ∃ s : ByteArray, (⟨(valP x).toArray⟩ : ByteArray) = s := ⟨_, rfl⟩
      obtain ⟨bb, hbb⟩ : ∃ b : Nat, x.b.toNat = b := ⟨_, rfl⟩
      obtain ⟨zz, hzz⟩ : ∃ b : Int, x.z = b := ⟨_, rfl⟩
      have HVA := Lib.hid (fun w1 => value15_any x hox.2 w1)
      unfold paV byteV at HVA
      unfold byteV at a1
      rw [hsk] at a0
      rw [hbb] at a1
      rw [hzz] at a2
      rw [hsk, hsv, hbb, hzz] at HVA
      have HPU := Lib.hid (fun (w' : World) (hb : Below wr.heap.size wr w') => hI.gd.put (cP x) hox.1 rfl _ _ w' (hI.rt.stay hb))
      have hgdp := gd_put (cP x) hox.1 rfl hI.gd
      have HGD := Lib.hid hgdp
      obtain ⟨nn, hroot, hsep⟩ := hI.gd.good
      have HRU0 := Lib.hid (fun (w' : World) (v' : NV) (hr : RepN (fun g => g ≠ P7 ∧ g ≠ P8) w' v' t) => r15Put_any (cP x) rfl t _ v' w' hr (root_putB (cP x) hox.1 t nn hroot hsep) (near_topB _ nn (near_put (cP x) hox.1 t nn hroot hsep)))
      have e1 : (⟨(cP x).k.toArray⟩ : ByteArray) = sk := hsk
      have e2 : (⟨(cP x).d.toArray⟩ : ByteArray) = sv := hsv
      rw [e1, e2] at HPU HRU0
      obtain ⟨tp, htp⟩ : ∃ t', putTop (cP x) t = t' := ⟨_, rfl⟩
      rw [htp] at HPU HRU0 HGD
      unfold ndV at HPU
      unfold nvV at HRU0
      simp only at HPU
      have hHLX : ∀ w6 : World, (∀ g, g < W.heap.size → g < wr.heap.size → w6.heap[g]? = wr.heap[g]?) → w6.cell? ⟨gl, offl + k * 3, none⟩ = some (.string sk) ∧ w6.cell? ⟨gl, offl + k * 3 + 1, none⟩ = some (.int .u8 (bb : Int)) ∧ w6.cell? ⟨gl, offl + k * 3 + 2, none⟩ = some (.int .i64 zz) := fun w6 hg => by
        have hq := hg gl hgl (World.block_lt_of_cell? wr _ a0)
        exact ⟨(cell_same (p := ⟨gl, offl + k * 3, none⟩) hq).trans a0, (cell_same (p := ⟨gl, offl + k * 3 + 1, none⟩) hq).trans a1, (cell_same (p := ⟨gl, offl + k * 3 + 2, none⟩) hq).trans a2⟩
      have HLX : Hid (∀ w6 : World, wr.grownBy w6 (some P7) → w6.cell? ⟨gl, offl + k * 3, none⟩ = some (.string sk) ∧ w6.cell? ⟨gl, offl + k * 3 + 1, none⟩ = some (.int .u8 (bb : Int)) ∧ w6.cell? ⟨gl, offl + k * 3 + 2, none⟩ = some (.int .i64 zz)) := Lib.hid (fun w6 hg => hHLX w6 (fun g h1 h2 => hg.block g h2 (fun e => by injection e with e; have := HORD.out; omega)))
      have HLX0 := Lib.hid hHLX
      have HCB : Hid (∀ w' : World, Below wr.heap.size wr w' → w'.cell? ⟨P7, 0, none⟩ = some (.int .i64 p1) ∧ w'.cell? ⟨P7, 1, none⟩ = some (.bool lf1) ∧ w'.cell? ⟨P7, 2, none⟩ = some (.slice kA1 kn1 kc1) ∧ w'.cell? ⟨P7, 3, none⟩ = some (.slice vA1 vn1 vc1) ∧ w'.cell? ⟨P7, 4, none⟩ = some (.slice dA1 dn1 dc1)) := Lib.hid (fun w' hb => by
        have z := HX7.out.below hb HX7.out.lt
        exact ⟨z.cell 0, z.cell 1, z.cell 2, z.cell 3, z.cell 4⟩)
      have i0 : (0 : Int) ≤ (k : Int) := by omega
      have i1 : (k : Int) < (n : Int) := by omega
      have hC0 := HCB.out wr.drew (Below.refl _ wr).drew
      have hS0 : wr.grownBy wr.drew (some P7) := ⟨rfl, rfl, rfl, Nat.le_refl _, fun _ _ _ => rfl⟩
      have T0 : Below wr.heap.size wr wr.drew := (Below.refl _ wr).drew
      clear hx hox a0 a1 a2 a0' hsk hsv hbb hzz hgdp hroot hsep e1 e2 htp hHLX hI
      go_wp2
      rename_i K hK hz
      refine wp_heldJ (fun w' : World => w'.cell? ⟨P7, 0, none⟩ = some (.int .i64 p1) ∧ w'.cell? ⟨P7, 1, none⟩ = some (.bool lf1) ∧ w'.cell? ⟨P7, 2, none⟩ = some (.slice kA1 kn1 kc1) ∧ w'.cell? ⟨P7, 3, none⟩ = some (.slice vA1 vn1 vc1) ∧ w'.cell? ⟨P7, 4, none⟩ = some (.slice dA1 dn1 dc1)) (fun w' : World => wr.grownBy w' (some P7)) 12 K hmx ?_ (fun _ _ h => h)
      refine wpAnyJ_take (i := 0) (v := .agg #[.int .i64 p1, .bool lf1, .slice kA1 kn1 kc1, .slice vA1 vn1 vc1, .slice dA1 dn1 dc1]) rfl (by kernel_rfl) (by kernel_rfl) (by kernel_rfl) (by kernel_rfl) (by decide) (by kernel_rfl) (fun _ _ _ h => h) (Or.inl ⟨by rfl, ?_⟩) hC0 hS0 ?_
      · rintro w6 ⟨c0, c1, c2, c3, c4⟩
        go_simp
      simp only [Act.put, List.setIfInBounds_toArray, List.set_cons_zero, List.set_cons_succ, List.getElem_toArray, List.getElem_cons_zero]
      refine wpAnyJ_takeS (i := 1) (v := .slice (some ⟨gl, offl, none⟩) n c) rfl (by kernel_rfl) (by kernel_rfl) (by kernel_rfl) (by decide) (fun _ _ _ h => h) (Or.inl ⟨by rfl, ?_⟩) (.inr hC0) hS0 ?_
      · rintro w6 hb6
        go_simp
      simp only [Act.put, List.setIfInBounds_toArray, List.set_cons_zero, List.set_cons_succ, List.getElem_toArray, List.getElem_cons_zero, List.getElem_cons_succ]
      refine wpAnyJ_takeS (i := 2) (v := .int .i64 (k : Int)) rfl (by kernel_rfl) (by kernel_rfl) (by kernel_rfl) (by decide) (fun _ _ _ h => h) (Or.inl ⟨by rfl, ?_⟩) (.inr hC0) hS0 ?_
      · rintro w6 hb6
        go_simp
      simp only [Act.put, List.setIfInBounds_toArray, List.set_cons_zero, List.set_cons_succ, List.getElem_toArray, List.getElem_cons_zero, List.getElem_cons_succ]
      refine wpAnyJ_takeS (i := 3) (v := .pointer (some ⟨gl, offl + k * 3, none⟩)) rfl (by kernel_rfl) (by kernel_rfl) (by kernel_rfl) (by decide) (fun _ _ _ h => h) (Or.inl ⟨by rfl, ?_⟩) (.inr hC0) hS0 ?_
      · rintro w6 hb6
        go_simp
      simp only [Act.put, List.setIfInBounds_toArray, List.set_cons_zero, List.set_cons_succ, List.getElem_toArray, List.getElem_cons_zero, List.getElem_cons_succ]
      refine wpAnyJ_takeS (i := 4) (v := .pointer (some ⟨gl, offl + k * 3, none⟩)) rfl (by kernel_rfl) (by kernel_rfl) (by kernel_rfl) (by decide) (fun _ _ _ h => h) (Or.inl ⟨by rfl, ?_⟩) (.inr hC0) hS0 ?_
      · rintro w6 hb6
        go_simp
      simp only [Act.put, List.setIfInBounds_toArray, List.set_cons_zero, List.set_cons_succ, List.getElem_toArray, List.getElem_cons_zero, List.getElem_cons_succ]
      refine wpAnyJ_takeS (i := 5) (v := .string sk) rfl (by kernel_rfl) (by kernel_rfl) (by kernel_rfl) (by decide) (fun _ _ _ h => h) (Or.inl ⟨by rfl, ?_⟩) (.inr hC0) hS0 ?_
      · rintro w6 hb6
        obtain ⟨y60, y61, y62⟩ := HLX.out w6 hb6
        go_simp
      simp only [Act.put, List.setIfInBounds_toArray, List.set_cons_zero, List.set_cons_succ, List.getElem_toArray, List.getElem_cons_zero, List.getElem_cons_succ]
      refine wpAnyJ_takeS (i := 6) (v := .slice (some ⟨gl, offl, none⟩) n c) rfl (by kernel_rfl) (by kernel_rfl) (by kernel_rfl) (by decide) (fun _ _ _ h => h) (Or.inl ⟨by rfl, ?_⟩) (.inr hC0) hS0 ?_
      · rintro w6 hb6
        go_simp
      simp only [Act.put, List.setIfInBounds_toArray, List.set_cons_zero, List.set_cons_succ, List.getElem_toArray, List.getElem_cons_zero, List.getElem_cons_succ]
      refine wpAnyJ_takeS (i := 7) (v := .int .i64 (k : Int)) rfl (by kernel_rfl) (by kernel_rfl) (by kernel_rfl) (by decide) (fun _ _ _ h => h) (Or.inl ⟨by rfl, ?_⟩) (.inr hC0) hS0 ?_
      · rintro w6 hb6
        go_simp
      simp only [Act.put, List.setIfInBounds_toArray, List.set_cons_zero, List.set_cons_succ, List.getElem_toArray, List.getElem_cons_zero, List.getElem_cons_succ]
      refine wpAnyJ_takeS (i := 8) (v := .pointer (some ⟨gl, offl + k * 3, none⟩)) rfl (by kernel_rfl) (by kernel_rfl) (by kernel_rfl) (by decide) (fun _ _ _ h => h) (Or.inl ⟨by rfl, ?_⟩) (.inr hC0) hS0 ?_
      · rintro w6 hb6
        go_simp
      simp only [Act.put, List.setIfInBounds_toArray, List.set_cons_zero, List.set_cons_succ, List.getElem_toArray, List.getElem_cons_zero, List.getElem_cons_succ]
      refine wpAnyJ_takeS (i := 9) (v := .agg #[.string sk, .int .u8 (bb : Int), .int .i64 zz]) rfl (by kernel_rfl) (by kernel_rfl) (by kernel_rfl) (by decide) (fun _ _ _ h => h) (Or.inl ⟨by rfl, ?_⟩) (.inr hC0) hS0 ?_
      · rintro w6 hb6
        obtain ⟨y60, y61, y62⟩ := HLX.out w6 hb6
        go_simp
      simp only [Act.put, List.setIfInBounds_toArray, List.set_cons_zero, List.set_cons_succ, List.getElem_toArray, List.getElem_cons_zero, List.getElem_cons_succ]
      refine wpAnyJ_one (i := 10) (by kernel_rfl) rfl (fun K5 hK5 => ?_)
      go_simp
      go_at_call 13
      (with_reducible refine (HVA.out _).mono ?_)
      rintro e2 w2 ⟨rfl, b2⟩
      have T2 : Below wr.heap.size wr w2 := below_step T0 b2
      have hC2 := HCB.out w2 T2
      have hS2 : wr.grownBy w2 (some P7) := only_of_below T2 (Nat.le_refl _)
      clear b2
      go_simp
      refine hK5.out _ _ (.inr hC2) hS2 ?_
      clear hK5 K5
      refine wpAnyJ_one (i := 11) (by kernel_rfl) rfl (fun K5 hK5 => ?_)
      go_simp
      go_at_call 12
      (with_reducible refine (HPU.out _ T2).mono ?_)
      rintro e3 w3 ⟨⟨p3, lf3, kA3, kn3, kc3, vA3, vn3, vc3, dA3, dn3, dc3⟩, rfl, r3, b3⟩
      unfold ndV
      simp only
      have T3 : Below wr.heap.size wr w3 := below_step T2 b3
      have R3 := Lib.hid r3
      have HT3 := Lib.hid T3
      have H23 : Hid (wr.heap.size ≤ w2.heap.size) := Lib.hid T2.size
      have hC3 := HCB.out w3 T3
      have hS3 : wr.grownBy w3 (some P7) := only_of_below T3 (Nat.le_refl _)
      clear b3 r3
      go_simp
      refine hK5.out _ _ (.inr hC3) hS3 ?_
      clear hK5 K5
      refine wpAnyJ_one (i := 12) (by kernel_rfl) rfl (fun K5 hK5 => ?_)
      go_simp
      have Z7 := HX7.out.below HT3.out HX7.out.lt
      have f0 := Z7.free 0
      have f1 := Z7.free 1
      have f2 := Z7.free 2
      have f3 := Z7.free 3
      have f4 := Z7.free 4
      obtain ⟨q0, q1, q2, q3, q4⟩ := hC3
      have hS4 := only_store (only_store (only_store (only_store (only_store hS3 0 (.int .i64 p3)) 1 (.bool lf3)) 2 (.slice kA3 kn3 kc3)) 3 (.slice vA3 vn3 vc3)) 4 (.slice dA3 dn3 dc3)
      go_simp
      refine hK5.out _ _ (.inl (by kernel_rfl)) hS4 ?_
      clear hK5 K5
      refine wpAnyJ_done (by kernel_rfl) ?_ _
      refine hK _ _ ?_
      obtain ⟨W4, hW4⟩ : ∃ x, ((((w3.setCell ⟨P7, 0, none⟩ (.int .i64 p3)).setCell ⟨P7, 1, none⟩ (.bool lf3)).setCell ⟨P7, 2, none⟩ (.slice kA3 kn3 kc3)).setCell ⟨P7, 3, none⟩ (.slice vA3 vn3 vc3)).setCell ⟨P7, 4, none⟩ (.slice dA3 dn3 dc3) = x := ⟨_, rfl⟩
      have hW4' : st5 w3 P7 (.int .i64 p3) (.bool lf3) (.slice kA3 kn3 kc3) (.slice vA3 vn3 vc3) (.slice dA3 dn3 dc3) = W4 := hW4
      rw [hW4] at hS4 ⊢
      have hg4 : w3.grownBy W4 (some P7) := hW4' ▸ st5_only w3 P7 _ _ _ _ _
      have hord := HORD.out
      have hrl7 := HX7.out.lt
      have hrl8 := HX8.out.lt
      have HX7b : Hid (Has W4 P7 29 #[.int .i64 p3, .bool lf3, .slice kA3 kn3 kc3, .slice vA3 vn3 vc3, .slice dA3 dn3 dc3]) := Lib.hid (hW4' ▸ (HX7.out.below HT3.out HX7.out.lt).st5 _ _ _ _ _)
      have HX8b := Lib.hid ((HX8.out.below HT3.out HX8.out.lt).grown hg4 (by intro e; injection e with e; omega))
      have HRT4 : Hid (RepT (fun g => g ≠ P7 ∧ g ≠ P8) W4 ⟨p3, lf3, kA3, kn3, kc3, vA3, vn3, vc3, dA3, dn3, dc3⟩ tp) := Lib.hid (RepT.move (fun g hg hl => by
        have h1 := H23.out
        have hne : g ≠ P7 := by omega
        exact ⟨⟨hne, by omega⟩, hg4.block g hl (fun e => by injection e with e; exact hne e)⟩) R3.out)
      have HRN4 : Hid (RepN (fun g => g ≠ P7 ∧ g ≠ P8) W4 ⟨q, qf, qA, qn, qc⟩ t) := Lib.hid (RepN.move (fun g hg hl => ⟨hg, (hg4.block g (Nat.lt_of_lt_of_le hl HT3.out.size) (fun e => by injection e with e; exact hg.1 e)).trans (HT3.out.block g hl)⟩) HI.out.rn)
      have HBL4 : Hid (Below W.heap.size W W4) := Lib.hid (hW4' ▸ below_st5 (below_step HI.out.bl HT3.out) hord.1 _ _ _ _ _)
      have HLX : Hid (∀ w6 : World, W4.grownBy w6 (some P8) → w6.cell? ⟨gl, offl + k * 3, none⟩ = some (.string sk) ∧ w6.cell? ⟨gl, offl + k * 3 + 1, none⟩ = some (.int .u8 (bb : Int)) ∧ w6.cell? ⟨gl, offl + k * 3 + 2, none⟩ = some (.int .i64 zz)) := Lib.hid (fun w6 hg => HLX0.out w6 (fun g h1 h2 => by
        have h3 : g < w3.heap.size := Nat.lt_of_lt_of_le h2 HT3.out.size
        exact (hg.block g (Nat.lt_of_lt_of_le h3 hg4.size) (fun e => by injection e with e; omega)).trans ((hg4.block g h3 (fun e => by injection e with e; omega)).trans (HT3.out.block g h2))))
      have HCB2 : Hid (∀ w' : World, Below W4.heap.size W4 w' → w'.cell? ⟨P8, 0, none⟩ = some (.int .i64 q) ∧ w'.cell? ⟨P8, 1, none⟩ = some (.bool qf) ∧ w'.cell? ⟨P8, 2, none⟩ = some (.slice qA qn qc)) := Lib.hid (fun w' hb => by
        have z := HX8b.out.below hb HX8b.out.lt
        exact ⟨z.cell 0, z.cell 1, z.cell 2⟩)
      have HRU := Lib.hid (fun (w' : World) (hb : Below W4.heap.size W4 w') => HRU0.out w' ⟨q, qf, qA, qn, qc⟩ (HRN4.out.stay hb))
      simp only at HRU
      clear hS4 hW4 hW4' hg4 hord hrl7 hrl8 hS0 hC0 T0 Z7 f0 f1 f2 f3 f4 q0 q1 q2 q3 q4 hS3 hS2 hC2 T2 T3
      have hC0 := HCB2.out W4.drew (Below.refl _ W4).drew
      have hS0 : W4.grownBy W4.drew (some P8) := ⟨rfl, rfl, rfl, Nat.le_refl _, fun _ _ _ => rfl⟩
      have T4 : Below W4.heap.size W4 W4.drew := (Below.refl _ W4).drew
      go_wp2
      rename_i K hK
      refine wp_heldJ (fun w' : World => w'.cell? ⟨P8, 0, none⟩ = some (.int .i64 q) ∧ w'.cell? ⟨P8, 1, none⟩ = some (.bool qf) ∧ w'.cell? ⟨P8, 2, none⟩ = some (.slice qA qn qc)) (fun w' : World => W4.grownBy w' (some P8)) 12 K hmx ?_ (fun _ _ h => h)
      refine wpAnyJ_take (i := 0) (v := .agg #[.int .i64 q, .bool qf, .slice qA qn qc]) rfl (by kernel_rfl) (by kernel_rfl) (by kernel_rfl) (by kernel_rfl) (by decide) (by kernel_rfl) (fun _ _ _ h => h) (Or.inl ⟨by rfl, ?_⟩) hC0 hS0 ?_
      · rintro w6 ⟨c0, c1, c2⟩
        go_simp
      simp only [Act.put, List.setIfInBounds_toArray, List.set_cons_zero, List.set_cons_succ, List.getElem_toArray, List.getElem_cons_zero]
      refine wpAnyJ_takeS (i := 1) (v := .slice (some ⟨gl, offl, none⟩) n c) rfl (by kernel_rfl) (by kernel_rfl) (by kernel_rfl) (by decide) (fun _ _ _ h => h) (Or.inl ⟨by rfl, ?_⟩) (.inr hC0) hS0 ?_
      · rintro w6 hb6
        go_simp
      simp only [Act.put, List.setIfInBounds_toArray, List.set_cons_zero, List.set_cons_succ, List.getElem_toArray, List.getElem_cons_zero, List.getElem_cons_succ]
      refine wpAnyJ_takeS (i := 2) (v := .int .i64 (k : Int)) rfl (by kernel_rfl) (by kernel_rfl) (by kernel_rfl) (by decide) (fun _ _ _ h => h) (Or.inl ⟨by rfl, ?_⟩) (.inr hC0) hS0 ?_
      · rintro w6 hb6
        go_simp
      simp only [Act.put, List.setIfInBounds_toArray, List.set_cons_zero, List.set_cons_succ, List.getElem_toArray, List.getElem_cons_zero, List.getElem_cons_succ]
      refine wpAnyJ_takeS (i := 3) (v := .pointer (some ⟨gl, offl + k * 3, none⟩)) rfl (by kernel_rfl) (by kernel_rfl) (by kernel_rfl) (by decide) (fun _ _ _ h => h) (Or.inl ⟨by rfl, ?_⟩) (.inr hC0) hS0 ?_
      · rintro w6 hb6
        go_simp
      simp only [Act.put, List.setIfInBounds_toArray, List.set_cons_zero, List.set_cons_succ, List.getElem_toArray, List.getElem_cons_zero, List.getElem_cons_succ]
      refine wpAnyJ_takeS (i := 4) (v := .pointer (some ⟨gl, offl + k * 3, none⟩)) rfl (by kernel_rfl) (by kernel_rfl) (by kernel_rfl) (by decide) (fun _ _ _ h => h) (Or.inl ⟨by rfl, ?_⟩) (.inr hC0) hS0 ?_
      · rintro w6 hb6
        go_simp
      simp only [Act.put, List.setIfInBounds_toArray, List.set_cons_zero, List.set_cons_succ, List.getElem_toArray, List.getElem_cons_zero, List.getElem_cons_succ]
      refine wpAnyJ_takeS (i := 5) (v := .string sk) rfl (by kernel_rfl) (by kernel_rfl) (by kernel_rfl) (by decide) (fun _ _ _ h => h) (Or.inl ⟨by rfl, ?_⟩) (.inr hC0) hS0 ?_
      · rintro w6 hb6
        obtain ⟨y60, y61, y62⟩ := HLX.out w6 hb6
        go_simp
      simp only [Act.put, List.setIfInBounds_toArray, List.set_cons_zero, List.set_cons_succ, List.getElem_toArray, List.getElem_cons_zero, List.getElem_cons_succ]
      refine wpAnyJ_takeS (i := 6) (v := .slice (some ⟨gl, offl, none⟩) n c) rfl (by kernel_rfl) (by kernel_rfl) (by kernel_rfl) (by decide) (fun _ _ _ h => h) (Or.inl ⟨by rfl, ?_⟩) (.inr hC0) hS0 ?_
      · rintro w6 hb6
        go_simp
      simp only [Act.put, List.setIfInBounds_toArray, List.set_cons_zero, List.set_cons_succ, List.getElem_toArray, List.getElem_cons_zero, List.getElem_cons_succ]
      refine wpAnyJ_takeS (i := 7) (v := .int .i64 (k : Int)) rfl (by kernel_rfl) (by kernel_rfl) (by kernel_rfl) (by decide) (fun _ _ _ h => h) (Or.inl ⟨by rfl, ?_⟩) (.inr hC0) hS0 ?_
      · rintro w6 hb6
        go_simp
      simp only [Act.put, List.setIfInBounds_toArray, List.set_cons_zero, List.set_cons_succ, List.getElem_toArray, List.getElem_cons_zero, List.getElem_cons_succ]
      refine wpAnyJ_takeS (i := 8) (v := .pointer (some ⟨gl, offl + k * 3, none⟩)) rfl (by kernel_rfl) (by kernel_rfl) (by kernel_rfl) (by decide) (fun _ _ _ h => h) (Or.inl ⟨by rfl, ?_⟩) (.inr hC0) hS0 ?_
      · rintro w6 hb6
        go_simp
      simp only [Act.put, List.setIfInBounds_toArray, List.set_cons_zero, List.set_cons_succ, List.getElem_toArray, List.getElem_cons_zero, List.getElem_cons_succ]
      refine wpAnyJ_takeS (i := 9) (v := .agg #[.string sk, .int .u8 (bb : Int), .int .i64 zz]) rfl (by kernel_rfl) (by kernel_rfl) (by kernel_rfl) (by decide) (fun _ _ _ h => h) (Or.inl ⟨by rfl, ?_⟩) (.inr hC0) hS0 ?_
      · rintro w6 hb6
        obtain ⟨y60, y61, y62⟩ := HLX.out w6 hb6
        go_simp
      simp only [Act.put, List.setIfInBounds_toArray, List.set_cons_zero, List.set_cons_succ, List.getElem_toArray, List.getElem_cons_zero, List.getElem_cons_succ]
      refine wpAnyJ_one (i := 10) (by kernel_rfl) rfl (fun K5 hK5 => ?_)
      go_simp
      go_at_call 13
      (with_reducible refine (HVA.out _).mono ?_)
      rintro e5 w5 ⟨rfl, b5⟩
      have T5 : Below W4.heap.size W4 w5 := below_step T4 b5
      have hC5 := HCB2.out w5 T5
      have hS5 : W4.grownBy w5 (some P8) := only_of_below T5 (Nat.le_refl _)
      clear b5
      go_simp
      refine hK5.out _ _ (.inr hC5) hS5 ?_
      clear hK5 K5
      refine wpAnyJ_one (i := 11) (by kernel_rfl) rfl (fun K5 hK5 => ?_)
      go_simp
      go_at_call 14
      (with_reducible refine (HRU.out _ T5).mono ?_)
      rintro e6 w6' ⟨⟨s, sf, sA, sn, sc⟩, rfl, r6, b6⟩
      unfold nvV
      simp only
      have T6 : Below W4.heap.size W4 w6' := below_step T5 b6
      have R6 := Lib.hid r6
      have HT6 := Lib.hid T6
      have H56 : Hid (W4.heap.size ≤ w5.heap.size) := Lib.hid T5.size
      have hC6 := HCB2.out w6' T6
      have hS6 : W4.grownBy w6' (some P8) := only_of_below T6 (Nat.le_refl _)
      clear b6 r6
      go_simp
      refine hK5.out _ _ (.inr hC6) hS6 ?_
      clear hK5 K5
      refine wpAnyJ_one (i := 12) (by kernel_rfl) rfl (fun K5 hK5 => ?_)
      go_simp
      have Z8 := HX8b.out.below HT6.out HX8b.out.lt
      have f0 := Z8.free 0
      have f1 := Z8.free 1
      have f2 := Z8.free 2
      obtain ⟨q0, q1, q2⟩ := hC6
      have hS7 := only_store (only_store (only_store hS6 0 (.int .i64 s)) 1 (.bool sf)) 2 (.slice sA sn sc)
      go_simp
      refine hK5.out _ _ (.inl (by kernel_rfl)) hS7 ?_
      clear hK5 K5
      refine wpAnyJ_done (by kernel_rfl) ?_ _
      refine hK _ _ ?_
      obtain ⟨W7, hW7⟩ : ∃ x, ((w6'.setCell ⟨P8, 0, none⟩ (.int .i64 s)).setCell ⟨P8, 1, none⟩ (.bool sf)).setCell ⟨P8, 2, none⟩ (.slice sA sn sc) = x := ⟨_, rfl⟩
      rw [hW7] at hS7 ⊢
      have hord := HORD.out
      have hrl7 := HX7b.out.lt
      have hrl8 := HX8b.out.lt
      have hg7 : w6'.grownBy W7 (some P8) := hW7 ▸ only_store (only_store (only_store (only_refl w6' P8) 0 _) 1 _) 2 _
      have hI7 : PutsI W W7 P7 P8 (k + 1) tp ⟨p3, lf3, kA3, kn3, kc3, vA3, vn3, vc3, dA3, dn3, dc3⟩ ⟨s, sf, sA, sn, sc⟩ := ⟨(HX7b.out.below HT6.out HX7b.out.lt).grown hg7 (by intro e; injection e with e; omega), hW7 ▸ has_st3 (HX8b.out.below HT6.out HX8b.out.lt) _ _ _,
        RepT.move (fun g hg hl => ⟨hg, (hg7.block g (Nat.lt_of_lt_of_le hl HT6.out.size) (fun e => by injection e with e; exact hg.2 e)).trans (HT6.out.block g hl)⟩) HRT4.out,
        RepN.move (fun g hg hl => by
          have h5 := H56.out
          have hn : g ≠ P7 ∧ g ≠ P8 := by
            rcases hg with hg | hg
            · exact hg
            · exact ⟨by omega, by omega⟩
          exact ⟨hn, hg7.block g hl (fun e => by injection e with e; exact hn.2 e)⟩) R6.out,
        HGD.out.1, .inr HGD.out.2.2, hW7 ▸ below_st3 (below_step HBL4.out HT6.out) (by omega) _ _ _⟩
      have HI7 := Lib.hid hI7
      have HXA : Hid (∀ w' : World, Below W7.heap.size W7 w' → (w'.cell? ⟨P7, 0, none⟩ = some (.int .i64 p3) ∧ w'.cell? ⟨P7, 1, none⟩ = some (.bool lf3) ∧ w'.cell? ⟨P7, 2, none⟩ = some (.slice kA3 kn3 kc3) ∧ w'.cell? ⟨P7, 3, none⟩ = some (.slice vA3 vn3 vc3) ∧ w'.cell? ⟨P7, 4, none⟩ = some (.slice dA3 dn3 dc3)) ∧ w'.cell? ⟨P8, 0, none⟩ = some (.int .i64 s) ∧ w'.cell? ⟨P8, 1, none⟩ = some (.bool sf) ∧ w'.cell? ⟨P8, 2, none⟩ = some (.slice sA sn sc)) := Lib.hid (fun w' hb => by
        have h := hI7.below hb
        exact ⟨⟨h.b7.cell 0, h.b7.cell 1, h.b7.cell 2, h.b7.cell 3, h.b7.cell 4⟩, h.b8.cell 0, h.b8.cell 1, h.b8.cell 2⟩)
      have HPL := Lib.hid (fun (w' : World) (hb : Below W7.heap.size W7 w') => hI7.gd.plain _ _ w' (hI7.rt.stay hb))
      unfold ndV at HPL
      simp only at HPL
      have HSA := Lib.hid (fun (w' : World) (G : Nat → Prop) (a : NV) (hb : Below W7.heap.size W7 w') (ha : RepN G w' a tp) => r15Same_any tp G _ a _ w' ha (hI7.rn.stay hb))
      unfold nvV at HSA
      simp only at HSA
      clear hS7 hW7 hg7 hI7 hord hrl7 hrl8 hS0 hC0 T4 Z8 f0 f1 f2 q0 q1 q2 hS6 hS5 hC5 T5 T6
      have T7 : Below W7.heap.size W7 W7.drew := (Below.refl _ W7).drew
      go_wp2
      first | (rename_i K hK; refine wp_held (fun w' : World => Below W7.heap.size W7 w') K hmx ?_ (fun _ _ h => h)) | (rename_i K hK hz; refine wp_held (fun w' : World => Below W7.heap.size W7 w') K hmx ?_ (fun _ _ h => h))
      obtain ⟨Wd, hWd⟩ : ∃ X, W7.drew = X := ⟨_, rfl⟩
      rw [hWd] at T7 ⊢
      clear hWd
      refine wpAnyH_take (i := 0) (v := .agg #[.int .i64 p3, .bool lf3, .slice kA3 kn3 kc3, .slice vA3 vn3 vc3, .slice dA3 dn3 dc3]) (lit rfl) (by kernel_rfl) (by kernel_rfl) (by kernel_rfl) (fun _ _ _ h => h) (Or.inl ⟨by rfl, ?_⟩) T7 ?_
      · rintro w6 hb6
        obtain ⟨⟨y60, y61, y62, y63, y64⟩, _⟩ := HXA.out w6 hb6
        go_simp
      simp only [Act.put, List.setIfInBounds_toArray, List.set_cons_zero, List.set_cons_succ]
      refine wpAnyH_take (i := 2) (v := .agg #[.int .i64 s, .bool sf, .slice sA sn sc]) (lit rfl) (by kernel_rfl) (by kernel_rfl) (by kernel_rfl) (fun _ _ _ h => h) (Or.inl ⟨by rfl, ?_⟩) T7 ?_
      · rintro w6 hb6
        obtain ⟨_, y60, y61, y62⟩ := HXA.out w6 hb6
        go_simp
      simp only [Act.put, List.setIfInBounds_toArray, List.set_cons_zero, List.set_cons_succ]
      refine wpAnyH_ready (rs := [1]) (by kernel_rfl) (by simp) ?_
      refine AllReadyH.cons (lit rfl) (fun K5 hK5 => ?_) AllReadyH.nil
      refine step_open rfl ?_
      go_simp
      go_at_call 16
      (with_reducible refine (HPL.out _ T7).mono ?_)
      rintro e8 w8 ⟨⟨g0, g1, gA, gn, gc⟩, rfl, r8, b8⟩
      unfold nvV
      simp only
      have T8 : Below W7.heap.size W7 w8 := below_step T7 b8
      have R8 := Lib.hid r8
      clear r8 b8
      go_simp
      refine hK5.out _ _ T8 (fun _ => ?_)
      clear hK5 K5
      refine wpAnyH_ready (rs := [3]) (by kernel_rfl) (by simp) ?_
      refine AllReadyH.cons (lit rfl) (fun K5 hK5 => ?_) AllReadyH.nil
      refine step_open rfl ?_
      go_simp
      go_at_call 15
      (with_reducible refine (HSA.out _ _ _ T8 R8.out).mono ?_)
      rintro e9 w9 ⟨rfl, b9⟩
      have T9 : Below W7.heap.size W7 w9 := below_step T8 b9
      clear b9
      go_simp
      refine hK5.out _ _ T9 (fun _ => ?_)
      clear hK5 K5
      refine wpAnyH_take (i := 4) (v := .bool false) (lit rfl) (by kernel_rfl) (by kernel_rfl) (by kernel_rfl) (fun _ _ _ h => h) (Or.inl ⟨by rfl, ?_⟩) T9 ?_
      · rintro w6 hb6
        go_simp
      simp only [Act.put, List.setIfInBounds_toArray, List.set_cons_zero, List.set_cons_succ]
      refine wpAnyH_done (by kernel_rfl) ?_ _
      refine hK _ _ ?_
      go_wp2
      go_roundw
      case rel => exact ⟨k + 1, tp, ⟨p3, lf3, kA3, kn3, kc3, vA3, vn3, vc3, dA3, dn3, dc3⟩, ⟨s, sf, sA, sn, sc⟩, by omega, by go_num, HI7.out.below T9⟩
      case measure => simp [intOf]; omega
    · have hkn : k = n := by omega
      have i1 : ¬ (k : Int) < (n : Int) := by omega
      have HFC := Lib.hid (fun (w' : World) (hb : Below wr.heap.size wr w') => hI.gd.find key _ _ w' (hI.rt.stay hb))
      have HRF := Lib.hid (fun (w' : World) (hb : Below wr.heap.size wr w') => r15Find_any key t _ _ w' (hI.rn.stay hb) hI.gd.bndT)
      have hchk : checkC t = true := hI.ne.elim (fun e => by rw [e]; exact empty_check) (fun e => good_check hI.gd.good e)
      have HCK := Lib.hid (fun (w' : World) (hb : Below wr.heap.size wr w') => hI.gd.check (by omega) _ _ w' (hI.rt.stay hb))
      rw [hchk] at HCK
      rw [HSX.out] at HFC HRF
      obtain ⟨r, hr⟩ : ∃ r, findT t key = r := ⟨_, rfl⟩
      rw [hr] at HFC HRF
      unfold ndV at HFC HCK
      unfold nvV at HRF
      simp only at HFC HCK
      have x70 := hI.b7.cell 0
      have x71 := hI.b7.cell 1
      have x72 := hI.b7.cell 2
      have x73 := hI.b7.cell 3
      have x74 := hI.b7.cell 4
      clear hr hchk hkn hI
      cases r with
      | none =>
        have HFC : Hid (∀ w' : World, Below wr.heap.size wr w' → Calls Try.prog 17 #[.agg #[.int .i64 p1, .bool lf1, .slice kA1 kn1 kc1, .slice vA1 vn1 vc1, .slice dA1 dn1 dc1], .string sx] w' fun e w2 => e = .returned (.tuple #[.string ⟨#[]⟩, .bool false]) ∧ Below w'.heap.size w' w2) := HFC
        have HRF : Hid (∀ w' : World, Below wr.heap.size wr w' → Calls Try.prog 18 #[.agg #[.int .i64 q, .bool qf, .slice qA qn qc], .string sx] w' fun e w2 => e = .returned (.tuple #[.string ⟨#[]⟩, .bool false]) ∧ Below w'.heap.size w' w2) := HRF
        go_wp2_with (first
          | (go_at_call 17; (with_reducible refine (HFC.out _ (Below.refl _ _)).mono ?_); rintro e5 w5 ⟨rfl, b5⟩; have Q5 := Lib.hid b5; have z := HX8.out.below b5 HX8.out.lt; have y0 := z.cell 0; have y1 := z.cell 1; have y2 := z.cell 2; clear b5 z)
          | (go_at_call 18; (with_reducible refine (HRF.out _ Q5.out).mono ?_); rintro e6 w6 ⟨rfl, b6⟩; have Q6 := Lib.hid (below_step Q5.out b6); have z := HX7.out.below Q6.out HX7.out.lt; have u0 := z.cell 0; have u1 := z.cell 1; have u2 := z.cell 2; have u3 := z.cell 3; have u4 := z.cell 4; clear b6 z)
          | (go_at_call 19; (with_reducible refine (HCK.out _ Q6.out).mono ?_); rintro e7 w7 ⟨rfl, b7⟩; have Q7 := Lib.hid (below_step Q6.out b7); clear b7))
        go_ret
        exact ⟨by simp, below_step HI.out.bl Q7.out⟩
      | some d =>
        have HFC : Hid (∀ w' : World, Below wr.heap.size wr w' → Calls Try.prog 17 #[.agg #[.int .i64 p1, .bool lf1, .slice kA1 kn1 kc1, .slice vA1 vn1 vc1, .slice dA1 dn1 dc1], .string sx] w' fun e w2 => e = .returned (.tuple #[.string ⟨d.toArray⟩, .bool true]) ∧ Below w'.heap.size w' w2) := HFC
        have HRF : Hid (∀ w' : World, Below wr.heap.size wr w' → Calls Try.prog 18 #[.agg #[.int .i64 q, .bool qf, .slice qA qn qc], .string sx] w' fun e w2 => e = .returned (.tuple #[.string ⟨d.toArray⟩, .bool true]) ∧ Below w'.heap.size w' w2) := HRF
        obtain ⟨sd, hsd⟩ : ∃ s : ByteArray, (⟨d.toArray⟩ : ByteArray) = s := ⟨_, rfl⟩
        rw [hsd] at HFC HRF
        clear hsd
        go_wp2_with (first
          | (go_at_call 17; (with_reducible refine (HFC.out _ (Below.refl _ _)).mono ?_); rintro e5 w5 ⟨rfl, b5⟩; have Q5 := Lib.hid b5; have z := HX8.out.below b5 HX8.out.lt; have y0 := z.cell 0; have y1 := z.cell 1; have y2 := z.cell 2; clear b5 z)
          | (go_at_call 18; (with_reducible refine (HRF.out _ Q5.out).mono ?_); rintro e6 w6 ⟨rfl, b6⟩; have Q6 := Lib.hid (below_step Q5.out b6); have z := HX7.out.below Q6.out HX7.out.lt; have u0 := z.cell 0; have u1 := z.cell 1; have u2 := z.cell 2; have u3 := z.cell 3; have u4 := z.cell 4; clear b6 z)
          | (go_at_call 19; (with_reducible refine (HCK.out _ Q6.out).mono ?_); rintro e7 w7 ⟨rfl, b7⟩; have Q7 := Lib.hid (below_step Q6.out b7); clear b7))
        go_ret
        exact ⟨by simp, below_step HI.out.bl Q7.out⟩
end Go.Proofs.Ytclaiigelgbpdaa
