import Derived.Test.YtpaklhifnndeoaaJTqk
import Derived.Test.YtpaklhifnndeoaaJ10
import Derived.Deep.Cut
/- Of a claim's texts, joined: Tql Tqm Tpb. No statement but in the last. -/
section
namespace Go.Proofs.Ytpaklhifnndeoaa
open Go.RowKit
set_option linter.unusedVariables false

set_option maxRecDepth 100000 in
set_option maxHeartbeats 16000000 in
theorem trTop_in (F : Nat → Prop) (x : NDV) (t : Tr) (w : World) (h : RepT F w x t) (hb : TopB t) :
    Calls Try.prog 43 #[ndV x] w (NodT (Fw (fun q => F q ∧ q < w.heap.size) w.heap.size) (topT t) w) := by
  obtain ⟨Fo, hFo⟩ : ∃ Fo : Nat → Prop, (fun q => F q ∧ q < w.heap.size) = Fo := ⟨_, rfl⟩
  have hrep := h.old
  rw [hFo] at hrep ⊢
  have hFW : ∀ q, Fo q → q < w.heap.size := fun q hq => by rw [← hFo] at hq; exact hq.2
  obtain ⟨W, hW⟩ : ∃ W, (w.alloc (.cells #[.int .i64 x.p, .bool x.lf, .slice x.kA x.kn x.kc, .slice x.vA x.vn x.vc, .slice x.dA x.dn x.dc] 29)).alloc (.cells #[.int .i64 0, .bool false, .slice none 0 0, .slice none 0 0, .slice none 0 0] 29) = W := ⟨_, rfl⟩
  have hB0 : Below w.heap.size w W := hW ▸ (((Below.refl _ w).alloc (Nat.le_refl _) _).alloc (by simp) _)
  have hX1 : Has W w.heap.size 29 #[.int .i64 x.p, .bool x.lf, .slice x.kA x.kn x.kc, .slice x.vA x.vn x.vc, .slice x.dA x.dn x.dc] := hW ▸ (Has.made w 29 _).alloc _
  have hX2 : Has W (w.heap.size + 1) 29 #[.int .i64 0, .bool false, .slice none 0 0, .slice none 0 0, .slice none 0 0] := hW ▸ (by have := Has.made (w.alloc (.cells #[.int .i64 x.p, .bool x.lf, .slice x.kA x.kn x.kc, .slice x.vA x.vn x.vc, .slice x.dA x.dn x.dc] 29)) 29 #[.int .i64 0, .bool false, .slice none 0 0, .slice none 0 0, .slice none 0 0]; simpa using this)
  have HR0 := Lib.hid (hrep.stay hB0)
  obtain ⟨tt, htt⟩ : ∃ r, topT t = r := ⟨_, rfl⟩
  have HTT := Lib.hid htt
  have HTB := Lib.hid hb
  rw [htt]
  unfold ndV
  obtain ⟨P1, hP1⟩ : ∃ P, w.heap.size = P := ⟨_, rfl⟩
  obtain ⟨P2, hP2⟩ : ∃ P, P1 + 1 = P := ⟨_, rfl⟩
  rw [hP1] at hX1
  rw [hP1, hP2] at hX2
  have HX1 := Lib.hid hX1
  have HX2 := Lib.hid hX2
  have HB0 : Hid (Below P1 w W) := Lib.hid (hP1 ▸ hB0)
  have HP1 : Hid (w.heap.size = P1 ∧ P1 < P2) := Lib.hid ⟨hP1, by omega⟩
  have HFW : Hid (∀ q, Fo q → q < P1) := Lib.hid (hP1 ▸ hFW)
  have HSZ := Lib.hid (fun (x : NDV) (t : Tr) (w : World) (h : RepT Fo w x t) (hb : BndN 50 t) => trSizes_any Fo x t w h (hb.mono (by decide)))
  unfold ndV at HSZ
  have HME := Lib.hid (fun (G : Nat → Prop) (x : NDV) (t : Tr) (w : World) (h : RepT G w x (.branch 0 [([], t)])) (hb : BndN 50 t) => trMend_in G x 0 [([], t)] 0 w h (by simp) (by simp) (fun y hy => by simp at hy; subst hy; exact hb) (fun y hy => by simp at hy; subst hy; simp) (even_one _))
  unfold ndV at HME
  simp only [Int.ofNat_zero] at HME
  clear h hrep hb hFo hFW hX1 hX2 hB0 htt
  go_enter Try.func43, Try.ntmps43
  go_wp2
  clear hW hP1 hP2
  go_loopg [11] (SizeOf.sizeOf t) (fun k v6 wr => ∃ (t' : Tr) (v : NDV), SizeOf.sizeOf t' = k ∧ RepT Fo wr v t' ∧ Has wr P1 29 #[.int .i64 v.p, .bool v.lf, .slice v.kA v.kn v.kc, .slice v.vA v.vn v.vc, .slice v.dA v.dn v.dc] ∧ Has wr P2 29 #[.int .i64 0, .bool false, .slice none 0 0, .slice none 0 0, .slice none 0 0] ∧ Below P1 w wr ∧ topT t' = tt ∧ TopB t')
  case atStart => exact ⟨t, x, rfl, HR0.out, HX1.out, HX2.out, HB0.out, HTT.out, HTB.out⟩
  case round =>
    obtain ⟨t', v, hk, hrep, hX1, hX2, hB, hf, hbt⟩ := hrel
    have x10 := hX1.cell 0
    have x11 : wr.cell? ⟨P1, 1, none⟩ = some (.bool v.lf) := hX1.cell 1
    have x12 := hX1.cell 2
    have x13 := hX1.cell 3
    have x14 : wr.cell? ⟨P1, 4, none⟩ = some (.slice v.dA v.dn v.dc) := hX1.cell 4
    by_cases hone : ∃ p y, t' = .branch p [y]
    · obtain ⟨pp, y, rfl⟩ := hone
      obtain ⟨hp, hlf, hkk, hv, ks, hd, hdb⟩ := repT_rowB.1 hrep
      obtain ⟨u, hu, huy⟩ := hdb.at_ (i := 0) (y := y) rfl
      obtain ⟨vp, vlf, kA, kn, kc, vA, vn, vc, dA, dn, dc⟩ := v
      simp only at hp hlf hkk hv hd hX1 x10 x11 x12 x13 x14
      subst hp hlf
      have e1 : dn = 1 := by rw [hd.lenS ndL_len (by omega), hdb.1]; rfl
      subst e1
      obtain ⟨g2, off2, rfl, hg2, hvc⟩ := hd.atS ndL_len (by omega) hu
      obtain ⟨ep, elf, ekA, ekn, ekc, evA, evn, evc, edA, edn, edc⟩ := u
      have c0 : wr.cell? ⟨g2, off2, none⟩ = some (.int .i64 ep) := by have := hvc 0 _ rfl; simpa using this
      have c1 : wr.cell? ⟨g2, off2 + 1, none⟩ = some (.bool elf) := by have := hvc 1 _ rfl; simpa using this
      have c2 : wr.cell? ⟨g2, off2 + 2, none⟩ = some (.slice ekA ekn ekc) := by have := hvc 2 _ rfl; simpa using this
      have c3 : wr.cell? ⟨g2, off2 + 3, none⟩ = some (.slice evA evn evc) := by have := hvc 3 _ rfl; simpa using this
      have c4 : wr.cell? ⟨g2, off2 + 4, none⟩ = some (.slice edA edn edc) := by have := hvc 4 _ rfl; simpa using this
      have f0 := hX1.free 0
      have f1 := hX1.free 1
      have f2 := hX1.free 2
      have f3 := hX1.free 3
      have f4 := hX1.free 4
      have HSM : Hid (SizeOf.sizeOf y.2 < gk) := Lib.hid (by rw [← hk]; exact Tr.small (List.mem_singleton.2 rfl))
      have HR : Hid (topT y.2 = tt) := Lib.hid (by rw [← hf]; exact (top_one vp y).symm)
      have HBY : Hid (TopB y.2) := Lib.hid (by cases hbt with | branch p l h hk => exact hk y rfl)
      have HUY := Lib.hid huy
      have HXX := Lib.hid hX1
      have HXY := Lib.hid hX2
      have HBB := Lib.hid hB
      clear hk hrep hkk hv hd hdb hX1 hX2 hB hf hbt hu huy hvc hg2
      go_wp2
      go_roundg (SizeOf.sizeOf y.2)
      case measure => exact HSM.out
      case rel =>
        refine ⟨y.2, ⟨ep, elf, ekA, ekn, ekc, evA, evn, evc, edA, edn, edc⟩, rfl, ?_, HXX.out.st5 (.int .i64 ep) (.bool elf) (.slice ekA ekn ekc) (.slice evA evn evc) (.slice edA edn edc), HXY.out.grown (st5_only wr P1 (.int .i64 ep) (.bool elf) (.slice ekA ekn ekc) (.slice evA evn evc) (.slice edA edn edc)) (by intro e; injection e with e; have := HP1.out; omega), below_st5 HBB.out (Nat.le_refl _) _ _ _ _ _, HR.out, HBY.out⟩
        exact RepT.move (fun q hq hl => ⟨hq, heap_st5 wr P1 _ _ _ _ _ q (by have := HFW.out q hq; omega)⟩) HUY.out
    · have hta := top_at (t := t') (fun p x e => hone ⟨p, x, e⟩)
      have hbn := hbt.bnd
      have hcn : v.lf = kindT t' := by
        cases t' with
        | leaf p l => exact (repT_rowL.1 hrep).2.1
        | branch p l => exact (repT_rowB.1 hrep).2.1
      have hdn : v.lf = false → ¬ v.dn = 1 := fun hlf => by
        cases t' with
        | leaf p l => rw [hcn] at hlf; cases hlf
        | branch p l =>
          obtain ⟨_, _, _, _, ks, hd, hdb⟩ := repT_rowB.1 hrep
          intro e
          have e1 : v.dn = l.length := by rw [hd.lenS ndL_len (by omega), hdb.1]
          obtain ⟨y, hy⟩ := List.length_eq_one_iff.1 (show l.length = 1 by omega)
          exact hone ⟨p, y, by rw [hy]⟩
      rw [hf] at hta
      obtain ⟨vp, vlf, kA, kn, kc, vA, vn, vc, dA, dn, dc⟩ := v
      simp only at hdn hX1 x10 x11 x12 x13 x14 hcn
      have HSZ2 := Lib.hid (HSZ.out _ t' wr hrep hbn)
      simp only at HSZ2
      have HAT := Lib.hid (fun (A : Option Addr) (c : Nat) (w' : World) (h : RowZ w' A (cellsN t') c (sizesT t')) => cuAt_any _ A _ c w' h (siz_tree (hbn.mono (by decide))))
      obtain ⟨a, ha⟩ : ∃ a, atZ (sizesT t') = a := ⟨_, rfl⟩
      rw [ha] at HAT hta
      have HREP := Lib.hid hrep
      have HBN := Lib.hid hbn
      have HXX := Lib.hid hX1
      have HXY := Lib.hid hX2
      have HBB := Lib.hid hB
      clear hk hrep hbn hX1 hX2 hB hf hbt hone hcn ha
      cases vlf
      · have hd1 : ¬ dn = 1 := hdn rfl
        have hd2 : ¬ ((dn : Int) = 1) := by omega
        clear hdn
        by_cases h0 : a = 0
        · subst h0
          rw [if_pos rfl] at hta
          have HTA := Lib.hid hta
          simp only [Int.ofNat_zero] at HAT
          clear hta
          go_wp2_with (first
            | (go_at_call 42; (with_reducible refine HSZ2.out.mono ?_); rintro e6 w6 ⟨A6, c6, rfl, r6, b6⟩; have R6 := Lib.hid r6; have B6 := Lib.hid b6; clear r6 b6)
            | (go_at_call 63; (with_reducible refine (HAT.out _ _ _ R6.out).mono ?_); rintro e7 w7 ⟨rfl, b7⟩; have Q := below_step B6.out b7; have Q7 := Lib.hid Q; have z1 := HXX.out.below Q HXX.out.lt; have y70 := z1.cell 0; have y71 := z1.cell 1; have y72 := z1.cell 2; have y73 := z1.cell 3; have y74 := z1.cell 4; have z2 := HXY.out.below Q HXY.out.lt; have q70 := z2.cell 0; have q71 := z2.cell 1; have q72 := z2.cell 2; have q73 := z2.cell 3; have q74 := z2.cell 4; have g70 := z2.free 0; have g71 := z2.free 1; have g72 := z2.free 2; have g73 := z2.free 3; have g74 := z2.free 4; have ZB7 := Lib.hid z2; have m0 : (w7.alloc (.cells #[.string ⟨#[]⟩] 9)).cell? ⟨P1, 0, none⟩ = some (.int .i64 vp) := ((HXX.out.below Q HXX.out.lt).alloc _).cell 0; have m1 : (w7.alloc (.cells #[.string ⟨#[]⟩] 9)).cell? ⟨P1, 1, none⟩ = some (.bool false) := ((HXX.out.below Q HXX.out.lt).alloc _).cell 1; have m2 : (w7.alloc (.cells #[.string ⟨#[]⟩] 9)).cell? ⟨P1, 2, none⟩ = some (.slice kA kn kc) := ((HXX.out.below Q HXX.out.lt).alloc _).cell 2; have m3 : (w7.alloc (.cells #[.string ⟨#[]⟩] 9)).cell? ⟨P1, 3, none⟩ = some (.slice vA vn vc) := ((HXX.out.below Q HXX.out.lt).alloc _).cell 3; have m4 : (w7.alloc (.cells #[.string ⟨#[]⟩] 9)).cell? ⟨P1, 4, none⟩ = some (.slice dA dn dc) := ((HXX.out.below Q HXX.out.lt).alloc _).cell 4; clear z1 z2 Q; clear b7))
          have XE := ZB7.out.st5 (.int .i64 vp) (.bool false) (.slice kA kn kc) (.slice vA vn vc) (.slice dA dn dc)
          have e0 := XE.cell 0
          have e1 := XE.cell 1
          have e2 := XE.cell 2
          have e3 := XE.cell 3
          have e4 := XE.cell 4
          unfold st5 at e0 e1 e2 e3 e4
          simp at e0 e1 e2 e3 e4
          have hp1 := HP1.out
          refine ⟨rfl, .agg #[.int .i64 vp, .bool false, .slice kA kn kc, .slice vA vn vc, .slice dA dn dc], ?_, ⟨vp, false, kA, kn, kc, vA, vn, vc, dA, dn, dc⟩, rfl, ?_, ?_⟩
          · simp [results, Try.f43, go_sem, e0, e1, e2, e3, e4]
          · rw [HTA.out]
            exact rep_box0 (HREP.out.stay Q7.out) (by rw [hp1.1]; exact HFW.out) (by omega) _ _ _ _ _
          · exact below_st5 (by rw [hp1.1]; exact HBB.out.trans (Q7.out.mono (Nat.le_of_lt HXX.out.lt))) (by omega) _ _ _ _ _
        · rw [if_neg h0] at hta
          have HTA := Lib.hid hta
          have h0i : ¬ ((a : Int) = 0) := by omega
          clear hta h0
          go_wp2_with (first
            | (go_at_call 42; (with_reducible refine HSZ2.out.mono ?_); rintro e6 w6 ⟨A6, c6, rfl, r6, b6⟩; have R6 := Lib.hid r6; have B6 := Lib.hid b6; clear r6 b6)
            | (go_at_call 63; (with_reducible refine (HAT.out _ _ _ R6.out).mono ?_); rintro e7 w7 ⟨rfl, b7⟩; have Q := below_step B6.out b7; have Q7 := Lib.hid Q; have z1 := HXX.out.below Q HXX.out.lt; have y70 := z1.cell 0; have y71 := z1.cell 1; have y72 := z1.cell 2; have y73 := z1.cell 3; have y74 := z1.cell 4; have z2 := HXY.out.below Q HXY.out.lt; have q70 := z2.cell 0; have q71 := z2.cell 1; have q72 := z2.cell 2; have q73 := z2.cell 3; have q74 := z2.cell 4; have g70 := z2.free 0; have g71 := z2.free 1; have g72 := z2.free 2; have g73 := z2.free 3; have g74 := z2.free 4; have ZB7 := Lib.hid z2; have m0 : (w7.alloc (.cells #[.string ⟨#[]⟩] 9)).cell? ⟨P1, 0, none⟩ = some (.int .i64 vp) := ((HXX.out.below Q HXX.out.lt).alloc _).cell 0; have m1 : (w7.alloc (.cells #[.string ⟨#[]⟩] 9)).cell? ⟨P1, 1, none⟩ = some (.bool false) := ((HXX.out.below Q HXX.out.lt).alloc _).cell 1; have m2 : (w7.alloc (.cells #[.string ⟨#[]⟩] 9)).cell? ⟨P1, 2, none⟩ = some (.slice kA kn kc) := ((HXX.out.below Q HXX.out.lt).alloc _).cell 2; have m3 : (w7.alloc (.cells #[.string ⟨#[]⟩] 9)).cell? ⟨P1, 3, none⟩ = some (.slice vA vn vc) := ((HXX.out.below Q HXX.out.lt).alloc _).cell 3; have m4 : (w7.alloc (.cells #[.string ⟨#[]⟩] 9)).cell? ⟨P1, 4, none⟩ = some (.slice dA dn dc) := ((HXX.out.below Q HXX.out.lt).alloc _).cell 4; clear z1 z2 Q; clear b7)
            | (go_at_call 54; (first
              | (obtain ⟨WB, hWB⟩ : ∃ x, (w7.alloc (.cells #[.string ⟨#[]⟩] 9)).alloc (.cells #[.int .i64 vp, .bool false, .slice kA kn kc, .slice vA vn vc, .slice dA dn dc] 29) = x := ⟨_, rfl⟩
                 try rw [hWB]
                 have hbw : Below w7.heap.size w7 WB := hWB ▸ (((Below.refl _ w7).alloc (Nat.le_refl _) _).alloc (by simp) _)
                 have hK : Has WB w7.heap.size 9 #[.string ⟨#[]⟩] := hWB ▸ (Has.made w7 9 _).alloc _
                 have hD : Has WB (w7.heap.size + 1) 29 #[.int .i64 vp, .bool false, .slice kA kn kc, .slice vA vn vc, .slice dA dn dc] := hWB ▸ (by have := Has.made (w7.alloc (.cells #[.string ⟨#[]⟩] 9)) 29 #[.int .i64 vp, .bool false, .slice kA kn kc, .slice vA vn vc, .slice dA dn dc]; simpa using this)
                 have hrb : RepT (Fw Fo wr.heap.size) WB ⟨0, false, some ⟨w7.heap.size, 0, none⟩, 1, 1, none, 0, 0, some ⟨w7.heap.size + 1, 0, none⟩, 1, 1⟩ (.branch 0 [([], t')]) := repT_rowB.2 ⟨rfl, rfl, RwF.of_has _ hK 1 1 rfl (by decide) (.inr Q7.out.size), RwF.none_ _ _ _, [⟨vp, false, kA, kn, kc, vA, vn, vc, dA, dn, dc⟩], RwF.of_has _ hD 1 5 rfl (by decide) (.inr (by have := Q7.out.size; omega)), Both.one ((HREP.out.stay (below_step Q7.out hbw)).mono fun q hq => .inl hq)⟩
                 (with_reducible refine (HME.out _ _ t' WB hrb HBN.out).mono ?_)
                 rintro e8 w8 ⟨⟨p8, lf8, kA8, kn8, kc8, vA8, vn8, vc8, dA8, dn8, dc8⟩, rfl, r8, b8⟩
                 unfold ndV
                 simp only
                 have R8 := Lib.hid r8
                 have Q := below_step (below_step Q7.out hbw) b8
                 have HWB := Lib.hid (below_step Q7.out hbw).size
                 have Q8 := Lib.hid Q
                 have z1 := HXX.out.below Q HXX.out.lt
                 have y80 := z1.cell 0
                 have y81 := z1.cell 1
                 have y82 := z1.cell 2
                 have y83 := z1.cell 3
                 have y84 := z1.cell 4
                 have z2 := HXY.out.below Q HXY.out.lt
                 have q80 := z2.cell 0
                 have q81 := z2.cell 1
                 have q82 := z2.cell 2
                 have q83 := z2.cell 3
                 have q84 := z2.cell 4
                 have g80 := z2.free 0
                 have g81 := z2.free 1
                 have g82 := z2.free 2
                 have g83 := z2.free 3
                 have g84 := z2.free 4
                 have ZB8 := Lib.hid z2
                 clear z1 z2 Q
                 clear r8 b8 hbw hK hD hrb hWB))))
          have XE := ZB8.out.st5 (.int .i64 p8) (.bool lf8) (.slice kA8 kn8 kc8) (.slice vA8 vn8 vc8) (.slice dA8 dn8 dc8)
          have e0 := XE.cell 0
          have e1 := XE.cell 1
          have e2 := XE.cell 2
          have e3 := XE.cell 3
          have e4 := XE.cell 4
          unfold st5 at e0 e1 e2 e3 e4
          simp at e0 e1 e2 e3 e4
          have hp1 := HP1.out
          refine ⟨rfl, .agg #[.int .i64 p8, .bool lf8, .slice kA8 kn8 kc8, .slice vA8 vn8 vc8, .slice dA8 dn8 dc8], ?_, ⟨p8, lf8, kA8, kn8, kc8, vA8, vn8, vc8, dA8, dn8, dc8⟩, rfl, ?_, ?_⟩
          · simp [results, Try.f43, go_sem, e0, e1, e2, e3, e4]
          · rw [HTA.out]
            exact rep_box (G := Fo) (S0 := wr.heap.size) (RepT.mono R8.out fun q hq => hq.elim (fun h => h.1) (fun h => .inr (Nat.le_trans HWB.out h))) (fun q hq => hq) (by rw [hp1.1]; exact HFW.out) (by omega) HXY.out.lt _ _ _ _ _
          · exact below_st5 (by rw [hp1.1]; exact HBB.out.trans (Q8.out.mono (Nat.le_of_lt HXX.out.lt))) (by omega) _ _ _ _ _
      · clear hdn
        by_cases h0 : a = 0
        · subst h0
          rw [if_pos rfl] at hta
          have HTA := Lib.hid hta
          simp only [Int.ofNat_zero] at HAT
          clear hta
          go_wp2_with (first
            | (go_at_call 42; (with_reducible refine HSZ2.out.mono ?_); rintro e6 w6 ⟨A6, c6, rfl, r6, b6⟩; have R6 := Lib.hid r6; have B6 := Lib.hid b6; clear r6 b6)
            | (go_at_call 63; (with_reducible refine (HAT.out _ _ _ R6.out).mono ?_); rintro e7 w7 ⟨rfl, b7⟩; have Q := below_step B6.out b7; have Q7 := Lib.hid Q; have z1 := HXX.out.below Q HXX.out.lt; have y70 := z1.cell 0; have y71 := z1.cell 1; have y72 := z1.cell 2; have y73 := z1.cell 3; have y74 := z1.cell 4; have z2 := HXY.out.below Q HXY.out.lt; have q70 := z2.cell 0; have q71 := z2.cell 1; have q72 := z2.cell 2; have q73 := z2.cell 3; have q74 := z2.cell 4; have g70 := z2.free 0; have g71 := z2.free 1; have g72 := z2.free 2; have g73 := z2.free 3; have g74 := z2.free 4; have ZB7 := Lib.hid z2; have m0 : (w7.alloc (.cells #[.string ⟨#[]⟩] 9)).cell? ⟨P1, 0, none⟩ = some (.int .i64 vp) := ((HXX.out.below Q HXX.out.lt).alloc _).cell 0; have m1 : (w7.alloc (.cells #[.string ⟨#[]⟩] 9)).cell? ⟨P1, 1, none⟩ = some (.bool true) := ((HXX.out.below Q HXX.out.lt).alloc _).cell 1; have m2 : (w7.alloc (.cells #[.string ⟨#[]⟩] 9)).cell? ⟨P1, 2, none⟩ = some (.slice kA kn kc) := ((HXX.out.below Q HXX.out.lt).alloc _).cell 2; have m3 : (w7.alloc (.cells #[.string ⟨#[]⟩] 9)).cell? ⟨P1, 3, none⟩ = some (.slice vA vn vc) := ((HXX.out.below Q HXX.out.lt).alloc _).cell 3; have m4 : (w7.alloc (.cells #[.string ⟨#[]⟩] 9)).cell? ⟨P1, 4, none⟩ = some (.slice dA dn dc) := ((HXX.out.below Q HXX.out.lt).alloc _).cell 4; clear z1 z2 Q; clear b7))
          have XE := ZB7.out.st5 (.int .i64 vp) (.bool true) (.slice kA kn kc) (.slice vA vn vc) (.slice dA dn dc)
          have e0 := XE.cell 0
          have e1 := XE.cell 1
          have e2 := XE.cell 2
          have e3 := XE.cell 3
          have e4 := XE.cell 4
          unfold st5 at e0 e1 e2 e3 e4
          simp at e0 e1 e2 e3 e4
          have hp1 := HP1.out
          refine ⟨rfl, .agg #[.int .i64 vp, .bool true, .slice kA kn kc, .slice vA vn vc, .slice dA dn dc], ?_, ⟨vp, true, kA, kn, kc, vA, vn, vc, dA, dn, dc⟩, rfl, ?_, ?_⟩
          · simp [results, Try.f43, go_sem, e0, e1, e2, e3, e4]
          · rw [HTA.out]
            exact rep_box0 (HREP.out.stay Q7.out) (by rw [hp1.1]; exact HFW.out) (by omega) _ _ _ _ _
          · exact below_st5 (by rw [hp1.1]; exact HBB.out.trans (Q7.out.mono (Nat.le_of_lt HXX.out.lt))) (by omega) _ _ _ _ _
        · rw [if_neg h0] at hta
          have HTA := Lib.hid hta
          have h0i : ¬ ((a : Int) = 0) := by omega
          clear hta h0
          go_wp2_with (first
            | (go_at_call 42; (with_reducible refine HSZ2.out.mono ?_); rintro e6 w6 ⟨A6, c6, rfl, r6, b6⟩; have R6 := Lib.hid r6; have B6 := Lib.hid b6; clear r6 b6)
            | (go_at_call 63; (with_reducible refine (HAT.out _ _ _ R6.out).mono ?_); rintro e7 w7 ⟨rfl, b7⟩; have Q := below_step B6.out b7; have Q7 := Lib.hid Q; have z1 := HXX.out.below Q HXX.out.lt; have y70 := z1.cell 0; have y71 := z1.cell 1; have y72 := z1.cell 2; have y73 := z1.cell 3; have y74 := z1.cell 4; have z2 := HXY.out.below Q HXY.out.lt; have q70 := z2.cell 0; have q71 := z2.cell 1; have q72 := z2.cell 2; have q73 := z2.cell 3; have q74 := z2.cell 4; have g70 := z2.free 0; have g71 := z2.free 1; have g72 := z2.free 2; have g73 := z2.free 3; have g74 := z2.free 4; have ZB7 := Lib.hid z2; have m0 : (w7.alloc (.cells #[.string ⟨#[]⟩] 9)).cell? ⟨P1, 0, none⟩ = some (.int .i64 vp) := ((HXX.out.below Q HXX.out.lt).alloc _).cell 0; have m1 : (w7.alloc (.cells #[.string ⟨#[]⟩] 9)).cell? ⟨P1, 1, none⟩ = some (.bool true) := ((HXX.out.below Q HXX.out.lt).alloc _).cell 1; have m2 : (w7.alloc (.cells #[.string ⟨#[]⟩] 9)).cell? ⟨P1, 2, none⟩ = some (.slice kA kn kc) := ((HXX.out.below Q HXX.out.lt).alloc _).cell 2; have m3 : (w7.alloc (.cells #[.string ⟨#[]⟩] 9)).cell? ⟨P1, 3, none⟩ = some (.slice vA vn vc) := ((HXX.out.below Q HXX.out.lt).alloc _).cell 3; have m4 : (w7.alloc (.cells #[.string ⟨#[]⟩] 9)).cell? ⟨P1, 4, none⟩ = some (.slice dA dn dc) := ((HXX.out.below Q HXX.out.lt).alloc _).cell 4; clear z1 z2 Q; clear b7)
            | (go_at_call 54; (first
              | (obtain ⟨WB, hWB⟩ : ∃ x, (w7.alloc (.cells #[.string ⟨#[]⟩] 9)).alloc (.cells #[.int .i64 vp, .bool true, .slice kA kn kc, .slice vA vn vc, .slice dA dn dc] 29) = x := ⟨_, rfl⟩
                 try rw [hWB]
                 have hbw : Below w7.heap.size w7 WB := hWB ▸ (((Below.refl _ w7).alloc (Nat.le_refl _) _).alloc (by simp) _)
                 have hK : Has WB w7.heap.size 9 #[.string ⟨#[]⟩] := hWB ▸ (Has.made w7 9 _).alloc _
                 have hD : Has WB (w7.heap.size + 1) 29 #[.int .i64 vp, .bool true, .slice kA kn kc, .slice vA vn vc, .slice dA dn dc] := hWB ▸ (by have := Has.made (w7.alloc (.cells #[.string ⟨#[]⟩] 9)) 29 #[.int .i64 vp, .bool true, .slice kA kn kc, .slice vA vn vc, .slice dA dn dc]; simpa using this)
                 have hrb : RepT (Fw Fo wr.heap.size) WB ⟨0, false, some ⟨w7.heap.size, 0, none⟩, 1, 1, none, 0, 0, some ⟨w7.heap.size + 1, 0, none⟩, 1, 1⟩ (.branch 0 [([], t')]) := repT_rowB.2 ⟨rfl, rfl, RwF.of_has _ hK 1 1 rfl (by decide) (.inr Q7.out.size), RwF.none_ _ _ _, [⟨vp, true, kA, kn, kc, vA, vn, vc, dA, dn, dc⟩], RwF.of_has _ hD 1 5 rfl (by decide) (.inr (by have := Q7.out.size; omega)), Both.one ((HREP.out.stay (below_step Q7.out hbw)).mono fun q hq => .inl hq)⟩
                 (with_reducible refine (HME.out _ _ t' WB hrb HBN.out).mono ?_)
                 rintro e8 w8 ⟨⟨p8, lf8, kA8, kn8, kc8, vA8, vn8, vc8, dA8, dn8, dc8⟩, rfl, r8, b8⟩
                 unfold ndV
                 simp only
                 have R8 := Lib.hid r8
                 have Q := below_step (below_step Q7.out hbw) b8
                 have HWB := Lib.hid (below_step Q7.out hbw).size
                 have Q8 := Lib.hid Q
                 have z1 := HXX.out.below Q HXX.out.lt
                 have y80 := z1.cell 0
                 have y81 := z1.cell 1
                 have y82 := z1.cell 2
                 have y83 := z1.cell 3
                 have y84 := z1.cell 4
                 have z2 := HXY.out.below Q HXY.out.lt
                 have q80 := z2.cell 0
                 have q81 := z2.cell 1
                 have q82 := z2.cell 2
                 have q83 := z2.cell 3
                 have q84 := z2.cell 4
                 have g80 := z2.free 0
                 have g81 := z2.free 1
                 have g82 := z2.free 2
                 have g83 := z2.free 3
                 have g84 := z2.free 4
                 have ZB8 := Lib.hid z2
                 clear z1 z2 Q
                 clear r8 b8 hbw hK hD hrb hWB))))
          have XE := ZB8.out.st5 (.int .i64 p8) (.bool lf8) (.slice kA8 kn8 kc8) (.slice vA8 vn8 vc8) (.slice dA8 dn8 dc8)
          have e0 := XE.cell 0
          have e1 := XE.cell 1
          have e2 := XE.cell 2
          have e3 := XE.cell 3
          have e4 := XE.cell 4
          unfold st5 at e0 e1 e2 e3 e4
          simp at e0 e1 e2 e3 e4
          have hp1 := HP1.out
          refine ⟨rfl, .agg #[.int .i64 p8, .bool lf8, .slice kA8 kn8 kc8, .slice vA8 vn8 vc8, .slice dA8 dn8 dc8], ?_, ⟨p8, lf8, kA8, kn8, kc8, vA8, vn8, vc8, dA8, dn8, dc8⟩, rfl, ?_, ?_⟩
          · simp [results, Try.f43, go_sem, e0, e1, e2, e3, e4]
          · rw [HTA.out]
            exact rep_box (G := Fo) (S0 := wr.heap.size) (RepT.mono R8.out fun q hq => hq.elim (fun h => h.1) (fun h => .inr (Nat.le_trans HWB.out h))) (fun q hq => hq) (by rw [hp1.1]; exact HFW.out) (by omega) HXY.out.lt _ _ _ _ _
          · exact below_st5 (by rw [hp1.1]; exact HBB.out.trans (Q8.out.mono (Nat.le_of_lt HXX.out.lt))) (by omega) _ _ _ _ _
end Go.Proofs.Ytpaklhifnndeoaa
end

section
namespace Go.Proofs.Ytpaklhifnndeoaa
open Go.RowKit
set_option linter.unusedVariables false

/-! Where a key goes among a leaf's. -/
def GtE (l : List Lf) (s : List UInt8) (z : Int) : Prop := (z = -1 ∧ ∀ y ∈ l, Op.bytesLess s y.k = false) ∨ ∃ (k : Nat) (y : Lf), z = k ∧ l[k]? = some y ∧ Op.bytesLess s y.k = true ∧ ∀ (j : Nat) (u : Lf), j < k → l[j]? = some u → Op.bytesLess s u.k = false
theorem gt_uniq {l : List Lf} {s : List UInt8} {z z' : Int} (h : GtE l s z) (h' : GtE l s z') : z = z' := by
  rcases h with ⟨h1, h2⟩ | ⟨k, y, h1, h2, h3, h4⟩
  · rcases h' with ⟨g1, g2⟩ | ⟨k', y', g1, g2, g3, g4⟩
    · rw [h1, g1]
    · exact absurd g3 (by rw [h2 y' (List.mem_of_getElem? g2)]; decide)
  · rcases h' with ⟨g1, g2⟩ | ⟨k', y', g1, g2, g3, g4⟩
    · exact absurd h3 (by rw [g2 y (List.mem_of_getElem? h2)]; decide)
    · rcases Nat.lt_trichotomy k k' with h | h | h
      · exact absurd h3 (by rw [g4 k y h h2]; decide)
      · rw [h1, g1, h]
      · exact absurd g3 (by rw [h4 k' y' h g2]; decide)
theorem gt_is : ∀ (l : List Lf) (s : List UInt8), ∃ z, GtE l s z
  | [], s => ⟨-1, .inl ⟨rfl, fun y hy => by cases hy⟩⟩
  | x :: l, s => by
    by_cases hx : Op.bytesLess s x.k = true
    · exact ⟨0, .inr ⟨0, x, rfl, rfl, hx, fun j u hj => by omega⟩⟩
    · obtain ⟨z, hz⟩ := gt_is l s
      have hx : Op.bytesLess s x.k = false := by simpa using hx
      rcases hz with ⟨h1, h2⟩ | ⟨k, y, h1, h2, h3, h4⟩
      · refine ⟨-1, .inl ⟨rfl, fun y hy => ?_⟩⟩
        rcases List.mem_cons.1 hy with rfl | hy
        · exact hx
        · exact h2 y hy
      · refine ⟨((k + 1 : Nat) : Int), .inr ⟨k + 1, y, rfl, h2, h3, fun j u hj hu => ?_⟩⟩
        cases j with
        | zero => simp at hu; subst hu; exact hx
        | succ j => exact h4 j u (by omega) hu
def RisL (l : List Lf) : Prop := l.Pairwise fun x y => Op.bytesLess x.k y.k = true
theorem put_idx {c : Lf} : ∀ (l : List Lf) (k : Nat) (y : Lf), RisL l → l[k]? = some y → y.k = c.k → putL c l = l.take k ++ ([c] ++ l.drop (k + 1))
  | [], k, y, _, h, _ => by simp at h
  | x :: l, 0, y, hr, h, he => by
    simp at h
    subst h
    have hn : ¬ Op.bytesLess x.k c.k = true := by rw [he, bl_irrefl]; decide
    unfold putL
    rw [if_neg hn, if_pos he]
    rfl
  | x :: l, k + 1, y, hr, h, he => by
    have h' : l[k]? = some y := by simpa using h
    have hx : Op.bytesLess x.k c.k = true := by rw [← he]; exact (List.pairwise_cons.1 hr).1 y (List.mem_of_getElem? h')
    unfold putL
    rw [if_pos hx, put_idx l k y (List.pairwise_cons.1 hr).2 h' he]
    rfl
theorem put_gt {c : Lf} : ∀ (l : List Lf) (k : Nat), k ≤ l.length → (∀ y ∈ l, y.k ≠ c.k) → (∀ (j : Nat) (u : Lf), j < k → l[j]? = some u → Op.bytesLess c.k u.k = false) → (∀ u, l[k]? = some u → Op.bytesLess c.k u.k = true) → putL c l = l.take k ++ ([c] ++ l.drop k)
  | [], k, hk, _, _, _ => by
    have : k = 0 := by simpa using hk
    subst this
    rfl
  | x :: l, 0, _, hne, _, h => by
    have hx := h x rfl
    have hn : ¬ Op.bytesLess x.k c.k = true := by
      have := bl_asym (show bl c.k x.k from hx)
      simpa [bl] using this
    unfold putL
    rw [if_neg hn, if_neg (hne x (List.mem_cons_self ..))]
    rfl
  | x :: l, k + 1, hk, hne, hj, h => by
    have h0 := hj 0 x (by omega) rfl
    have hx : Op.bytesLess x.k c.k = true := by
      rcases bl_three x.k c.k with h1 | h1 | h1
      · exact h1
      · exact absurd h1 (hne x (List.mem_cons_self ..))
      · have h2 : Op.bytesLess c.k x.k = true := h1
        rw [h0] at h2
        cases h2
    unfold putL
    rw [if_pos hx, put_gt l k (by simpa using hk) (fun y hy => hne y (List.mem_cons_of_mem _ hy)) (fun j u hj' hu => hj (j + 1) u (by omega) hu) (fun u hu => h u hu)]
    rfl
theorem trPutIn1_any (o s : List UInt8) (B : Nat) (w : World) (hB : Has w B 9 #[.string ⟨s.toArray⟩]) :
    Calls Try.prog 85 #[.string ⟨o.toArray⟩, .pointer (some ⟨B, 0, none⟩)] w fun e w' => e = .returned (.bool (Op.bytesLess s o)) ∧ w = w' := by
  obtain ⟨so, hso⟩ : ∃ x : ByteArray, (⟨o.toArray⟩ : ByteArray) = x := ⟨_, rfl⟩
  have hol : o = so.toList := by rw [← hso]; exact (Go.ByteArray.toList_mk _).symm
  obtain ⟨ss, hss⟩ : ∃ x : ByteArray, (⟨s.toArray⟩ : ByteArray) = x := ⟨_, rfl⟩
  have hsl : s = ss.toList := by rw [← hss]; exact (Go.ByteArray.toList_mk _).symm
  rw [hso]
  rw [hss] at hB
  have c0 := hB.cell 0
  rw [hol, hsl]
  have HG : Hid ((!Op.bytesLess so.toList ss.toList && !(so.toList == ss.toList)) = Op.bytesLess ss.toList so.toList) := Lib.hid (by rw [← Bool.not_or, le_is, Bool.not_not])
  clear hso hss hol hsl hB
  go_enter Try.func85, Try.ntmps85
  go_wp2
  go_ret
  refine ⟨?_, rfl⟩
  rw [← HG.out]
  rfl
set_option maxHeartbeats 1000000 in
theorem idxFS_any (F : Nat → Prop) (A : Option Addr) (n c B : Nat) (l : List Lf) (s : List UInt8) (z : Int) (hz : GtE l s z) (w : World) (h : RwF F w A n c 1 (l.map fun y => strV y.k)) (hn : n ≤ 1000000) (hB : Has w B 9 #[.string ⟨s.toArray⟩]) :
    Calls Try.prog 84 #[.slice A n c, .func (.func 85) #[] #[.pointer (some ⟨B, 0, none⟩)]] w fun e w' => e = .returned (.int .i64 z) ∧ w = w' := by
  have HA := Lib.hid h
  have HN : Hid (n = l.length) := Lib.hid (by have := h.len; simpa using this.symm)
  have HC := Lib.hid (fun o => trPutIn1_any o s B w hB)
  have HZ := Lib.hid (fun z' (hz' : GtE l s z') => gt_uniq hz' hz)
  clear h hB hz
  go_enter Try.func84, Try.ntmps84
  go_wp2
  go_loopw [8] (fun i wr => wr = w ∧ ∃ k : Nat, k ≤ n ∧ i = .int .i64 k ∧ ∀ (j : Nat) (u : Lf), j < k → l[j]? = some u → Op.bytesLess s u.k = false) (fun i _ => n - (intOf i).toNat)
  case atStart => exact ⟨rfl, 0, Nat.zero_le _, rfl, fun j u hj => absurd hj (by omega)⟩
  case round =>
    obtain ⟨rfl, k, hk, rfl, hj⟩ := hrel
    have HJ := Lib.hid hj
    clear hj
    by_cases hlt : k < n
    · obtain ⟨y, hy⟩ : ∃ y, l[k]? = some y := ⟨_, List.getElem?_eq_getElem (by rw [← HN.out]; exact hlt)⟩
      obtain ⟨g, off, rfl, _, ck⟩ := HA.out.str hy
      have HY := Lib.hid hy
      have HCY := Lib.hid (HC.out y.k)
      obtain ⟨sk, hsk⟩ : ∃ sk : ByteArray, (⟨y.k.toArray⟩ : ByteArray) = sk := ⟨_, rfl⟩
      rw [hsk] at ck HCY
      have i0 : (0 : Int) ≤ (k : Int) := by omega
      have i1 : (k : Int) < (n : Int) := by omega
      clear hsk hy
      by_cases he : Op.bytesLess s y.k = true
      · have HF : Hid ((k : Int) = z) := Lib.hid (HZ.out _ (.inr ⟨k, y, rfl, HY.out, he, HJ.out⟩))
        rw [he] at HCY
        clear he
        go_wp2_with (go_at_call 85; (with_reducible refine HCY.out.mono ?_); rintro e1 w1 ⟨rfl, rfl⟩)
        go_ret
        exact ⟨by rw [← HF.out]; rfl, rfl⟩
      · have he : Op.bytesLess s y.k = false := by simpa using he
        rw [he] at HCY
        have HF := Lib.hid he
        clear he
        go_wp2_with (go_at_call 85; (with_reducible refine HCY.out.mono ?_); rintro e1 w1 ⟨rfl, rfl⟩)
        go_roundw
        case rel => exact ⟨trivial, k + 1, by omega, by go_num, fun j u hj hu => by
          by_cases e : j = k
          · subst e
            rw [HY.out] at hu
            injection hu with hu
            subst hu
            exact HF.out
          · exact HJ.out j u (by omega) hu⟩
        case measure => simp [intOf]; omega
    · obtain rfl : k = n := by omega
      have HF : Hid ((-1 : Int) = z) := Lib.hid (HZ.out _ (.inl ⟨rfl, fun y hy => by
        obtain ⟨j, hj⟩ := List.getElem?_of_mem hy
        exact HJ.out j y (by rw [HN.out]; exact (List.getElem?_eq_some_iff.1 hj).1) hj⟩))
      go_wp2
      go_ret
      exact ⟨by rw [← HF.out]; rfl, rfl⟩
set_option maxRecDepth 100000 in
set_option maxHeartbeats 8000000 in
theorem trPutIn_any (F : Nat → Prop) (x : NDV) (p : Int) (l : List Lf) (c : Lf) (w : World) (h : RepT F w x (.leaf p l)) (hl : l.length ≤ 500) (hr : RisL l) (hpg : c.pg = []) :
    Calls Try.prog 64 #[ndV x, .string ⟨c.k.toArray⟩, .string ⟨c.d.toArray⟩] w (NodT (Fw (fun q => F q ∧ q < w.heap.size) w.heap.size) (.leaf 0 (putL c l)) w) := by
  obtain ⟨Fo, hFo⟩ : ∃ Fo : Nat → Prop, (fun q => F q ∧ q < w.heap.size) = Fo := ⟨_, rfl⟩
  have hrep := h.old
  rw [hFo] at hrep ⊢
  have hFW : ∀ q, Fo q → q < w.heap.size := fun q hq => by rw [← hFo] at hq; exact hq.2
  obtain ⟨hp, hlf, hrow⟩ := repT_rowL.1 hrep
  have HROW := Lib.hid hrow
  obtain ⟨pn, lfn, kAn, knn, kcn, vAn, vnn, vcn, dAn, dnn, dcn⟩ := x
  simp only at hp hlf
  subst hp hlf
  obtain ⟨hkr, ⟨vs, hv, hvb⟩, hd⟩ := hrow
  simp only at hkr hv hd
  obtain rfl : dnn = 0 := hd.zero (by omega)
  have e1 : knn = l.length := by have := hkr.len; simpa using this.symm
  obtain ⟨sk, hsk⟩ : ∃ s : ByteArray, (⟨c.k.toArray⟩ : ByteArray) = s := ⟨_, rfl⟩
  obtain ⟨sd, hsd⟩ : ∃ s : ByteArray, (⟨c.d.toArray⟩ : ByteArray) = s := ⟨_, rfl⟩
  obtain ⟨W, hW⟩ : ∃ W, ((w.alloc (.cells #[.int .i64 pn, .bool true, .slice kAn knn kcn, .slice vAn vnn vcn, .slice dAn 0 dcn] 29)).alloc (.cells #[.string sk] 9)).alloc (.cells #[.int .i64 0, .bool false, .slice none 0 0, .slice none 0 0, .slice none 0 0] 29) = W := ⟨_, rfl⟩
  have hB0 : Below w.heap.size w W := hW ▸ ((((Below.refl _ w).alloc (Nat.le_refl _) _).alloc (by simp) _).alloc (by simp; omega) _)
  have hX3 : Has W w.heap.size 29 #[.int .i64 pn, .bool true, .slice kAn knn kcn, .slice vAn vnn vcn, .slice dAn 0 dcn] := hW ▸ ((Has.made w 29 _).alloc _).alloc _
  have hX4 : Has W (w.heap.size + 1) 9 #[.string sk] := hW ▸ (by have := Has.made (w.alloc (.cells #[.int .i64 pn, .bool true, .slice kAn knn kcn, .slice vAn vnn vcn, .slice dAn 0 dcn] 29)) 9 #[.string sk]; simpa using this.alloc _)
  have hX6 : Has W (w.heap.size + 1 + 1) 29 #[.int .i64 0, .bool false, .slice none 0 0, .slice none 0 0, .slice none 0 0] := hW ▸ (by have := Has.made ((w.alloc (.cells #[.int .i64 pn, .bool true, .slice kAn knn kcn, .slice vAn vnn vcn, .slice dAn 0 dcn] 29)).alloc (.cells #[.string sk] 9)) 29 #[.int .i64 0, .bool false, .slice none 0 0, .slice none 0 0, .slice none 0 0]; simpa using this)
  obtain ⟨Pk, hPk⟩ : ∃ P, W.heap.size = P := ⟨_, rfl⟩
  obtain ⟨Pv, hPv⟩ : ∃ P, Pk + 1 = P := ⟨_, rfl⟩
  obtain ⟨P7, hP7⟩ : ∃ P, Pv + 1 = P := ⟨_, rfl⟩
  obtain ⟨V, hV⟩ : ∃ V, ((W.alloc (.cells #[.string sk] 9)).alloc (.cells #[.string sd, .slice none 0 0] 84)).alloc (.cells #[.int .i64 0, .bool false, .slice (some ⟨Pk, 0, none⟩) 1 1, .slice (some ⟨Pv, 0, none⟩) 1 1, .slice none 0 0] 29) = V := ⟨_, rfl⟩
  have hB1 : Below W.heap.size W V := hV ▸ ((((Below.refl _ W).alloc (Nat.le_refl _) _).alloc (by simp) _).alloc (by simp; omega) _)
  have hYk : Has V W.heap.size 9 #[.string sk] := hV ▸ ((Has.made W 9 _).alloc _).alloc _
  have hYv : Has V (W.heap.size + 1) 84 #[.string sd, .slice none 0 0] := hV ▸ (by have := Has.made (W.alloc (.cells #[.string sk] 9)) 84 #[.string sd, .slice none 0 0]; simpa using this.alloc _)
  have hY7 : Has V (W.heap.size + 1 + 1) 29 #[.int .i64 0, .bool false, .slice (some ⟨Pk, 0, none⟩) 1 1, .slice (some ⟨Pv, 0, none⟩) 1 1, .slice none 0 0] := hV ▸ (by have := Has.made ((W.alloc (.cells #[.string sk] 9)).alloc (.cells #[.string sd, .slice none 0 0] 84)) 29 #[.int .i64 0, .bool false, .slice (some ⟨Pk, 0, none⟩) 1 1, .slice (some ⟨Pv, 0, none⟩) 1 1, .slice none 0 0]; simpa using this)
  rw [hPk] at hYk
  rw [hPk, hPv] at hYv
  rw [hPk, hPv, hP7] at hY7
  have hlt6 := hX6.lt
  obtain ⟨P3, hP3⟩ : ∃ P, w.heap.size = P := ⟨_, rfl⟩
  obtain ⟨P4, hP4⟩ : ∃ P, P3 + 1 = P := ⟨_, rfl⟩
  obtain ⟨P6, hP6⟩ : ∃ P, P4 + 1 = P := ⟨_, rfl⟩
  rw [hP3] at hX3
  rw [hP3, hP4] at hX4
  rw [hP3, hP4, hP6] at hX6 hlt6
  have hV3 := hX3.below hB1 hX3.lt
  have hV4 := hX4.below hB1 hX4.lt
  have hV6 := hX6.below hB1 hX6.lt
  have hBV := below_step hB0 hB1
  have hsw := fun (f t : Nat) (hft : f ≤ t) (ht : t ≤ 10000) => trSwap_leaf (Fw Fo W.heap.size) ⟨pn, true, kAn, knn, kcn, vAn, vnn, vcn, dAn, 0, dcn⟩ ⟨0, false, some ⟨Pk, 0, none⟩, 1, 1, some ⟨Pv, 0, none⟩, 1, 1, none, 0, 0⟩ l [c] f t V ((HROW.out.below hBV).move fun q hq hl => ⟨.inl hq, rfl⟩) ⟨by have := RwF.of_has (Fw Fo W.heap.size) hYk 1 1 rfl (by decide) (.inr (by omega)); rw [← hsk] at this; exact this, ⟨[⟨c.d, none, 0, 0⟩], by have := RwF.of_has (Fw Fo W.heap.size) hYv 1 2 rfl (by decide) (.inr (by omega)); rw [← hsd] at this; exact this, Both.one ⟨rfl, by rw [hpg]; exact RwF.none_ _ _ _⟩⟩, RwF.none_ _ _ _⟩ (by omega) (by simp) hft (by omega)
  unfold ndV at hsw ⊢
  simp only at hsw ⊢
  have HSW := Lib.hid hsw
  rw [hsk, hsd]
  have HFW := Lib.hid hFW
  have HWV : Hid (W.heap.size ≤ V.heap.size) := Lib.hid hB1.size
  have HORD : Hid (w.heap.size = P3 ∧ P3 < P4 ∧ P4 < P6 ∧ P6 < W.heap.size) := Lib.hid ⟨hP3, by omega, by omega, hlt6⟩
  have HV6 := Lib.hid hV6
  have HBV := Lib.hid hBV
  have HV := Lib.hid hV
  have x40 := hX4.cell 0
  have x32 := hV3.cell 2
  have x30 := hV3.cell 0
  have x31 := hV3.cell 1
  have x33 := hV3.cell 3
  have x34 := hV3.cell 4
  have v40 := hV4.cell 0
  have x70 := hY7.cell 0
  have x71 := hY7.cell 1
  have x72 := hY7.cell 2
  have x73 := hY7.cell 3
  have x74 := hY7.cell 4
  have HKR := Lib.hid (hkr.below hBV)
  have hknb : knn ≤ 1000000 := by omega
  have HN : Hid (knn = l.length ∧ l.length ≤ 500) := Lib.hid ⟨e1, hl⟩
  have HIX := Lib.hid (fun A n c' z w (hz : IdxE l c.k z) h h2 => indexS15_z hz Fo A n c' w h h2)
  have HIF := Lib.hid (fun z (hz : GtE l c.k z) => idxFS_any Fo kAn knn kcn P4 l c.k z hz V (hkr.below hBV) hknb (by rw [hsk]; exact hV4))
  rw [hsk] at HIX
  obtain ⟨z, hz⟩ := idx_is l c.k
  have HZ := Lib.hid hz
  clear h hrep hFo hkr hv hvb hd hB0 hX3 hX4 hX6 hB1 hYk hYv hY7 hlt6 hV3 hV4 hV6 hBV hV hsw hl e1 hsk hsd hFW
  rcases hz with ⟨rfl, hne⟩ | ⟨k, y, rfl, hy, hyk, _⟩
  · obtain ⟨z2, hz2⟩ := gt_is l c.k
    have HZ2 := Lib.hid hz2
    have HNE := Lib.hid hne
    clear hne
    rcases hz2 with ⟨rfl, hall⟩ | ⟨k2, y2, rfl, hy2, hyg, hlow⟩
    · have HPL : Hid (swapL knn knn l [c] = putL c l) := Lib.hid (by
        rw [HN.out.1, put_gt l l.length (Nat.le_refl _) HNE.out (fun j u _ hu => hall u (List.mem_of_getElem? hu)) (fun u hu => by simp at hu)]
        rfl)
      have HS2 := Lib.hid (HSW.out knn knn (Nat.le_refl _) (by have := HN.out; omega))
      rw [HPL.out] at HS2
      clear hall hr
      go_enter Try.func64, Try.ntmps64
      go_upto_region 2 with (fail)
      rw [HV.out]
      go_wp2_with (first
        | (go_at_call 48; (with_reducible refine (HIX.out _ _ _ _ _ HZ.out HKR.out hknb).mono ?_); rintro e9 w9 ⟨rfl, rfl⟩)
        | (go_at_call 84; (with_reducible refine (HIF.out _ HZ2.out).mono ?_); rintro e9 w9 ⟨rfl, rfl⟩)
        | (go_at_call 65; (with_reducible refine HS2.out.mono ?_); rintro e8 w8 ⟨⟨p8, lf8, kA8, kn8, kc8, vA8, vn8, vc8, dA8, dn8, dc8⟩, us, rfl, hp8, hl8, o8, b8⟩; simp only at hp8 hl8; subst hp8 hl8; unfold ndV; simp only; have O8 := Lib.hid o8; have B8 := Lib.hid b8; have z6 := HV6.out.below b8 HV6.out.lt; have q0 := z6.cell 0; have q1 := z6.cell 1; have q2 := z6.cell 2; have q3 := z6.cell 3; have q4 := z6.cell 4; have f0 := z6.free 0; have f1 := z6.free 1; have f2 := z6.free 2; have f3 := z6.free 3; have f4 := z6.free 4; have Z6 := Lib.hid z6; clear o8 b8 z6))
      have XE := Z6.out.st5 (.int .i64 0) (.bool true) (.slice kA8 kn8 kc8) (.slice vA8 vn8 vc8) (.slice dA8 dn8 dc8)
      have e0 := XE.cell 0
      have e1 := XE.cell 1
      have e2 := XE.cell 2
      have e3 := XE.cell 3
      have e4 := XE.cell 4
      unfold st5 at e0 e1 e2 e3 e4
      simp at e0 e1 e2 e3 e4
      have hord := HORD.out
      have hbv := HBV.out.size
      refine ⟨rfl, .agg #[.int .i64 0, .bool true, .slice kA8 kn8 kc8, .slice vA8 vn8 vc8, .slice dA8 dn8 dc8], ?_, ⟨0, true, kA8, kn8, kc8, vA8, vn8, vc8, dA8, dn8, dc8⟩, rfl, ?_, ?_⟩
      · simp [results, Try.f64, go_sem, e0, e1, e2, e3, e4]
      · exact rep_box (G := Fo) (S0 := W.heap.size) (RepT.mono (OwnN.rep (t := .leaf 0 (putL c l)) (z := ⟨0, true, kA8, kn8, kc8, vA8, vn8, vc8, dA8, dn8, dc8⟩) ⟨rfl, rfl, us, O8.out⟩) fun q hq => hq.elim (fun h => h) (fun h => .inr (by have h1 := HWV.out; omega))) (fun q hq => hq) HFW.out (by omega) (by omega) _ _ _ _ _
      · exact below_st5 (below_step HBV.out B8.out) (by omega) _ _ _ _ _
    · have hk2 := (List.getElem?_eq_some_iff.1 hy2).1
      have HPL : Hid (swapL k2 k2 l [c] = putL c l) := Lib.hid (by
        rw [put_gt l k2 (by omega) HNE.out hlow (fun u hu => by rw [hy2] at hu; injection hu with hu; subst hu; exact hyg)]
        rfl)
      have HS2 := Lib.hid (HSW.out k2 k2 (Nat.le_refl _) (by have := HN.out; omega))
      rw [HPL.out] at HS2
      have i5 : ¬ ((k2 : Int) < 0) := by omega
      clear hy2 hyg hlow hk2 hr
      go_enter Try.func64, Try.ntmps64
      go_upto_region 2 with (fail)
      rw [HV.out]
      go_wp2_with (first
        | (go_at_call 48; (with_reducible refine (HIX.out _ _ _ _ _ HZ.out HKR.out hknb).mono ?_); rintro e9 w9 ⟨rfl, rfl⟩)
        | (go_at_call 84; (with_reducible refine (HIF.out _ HZ2.out).mono ?_); rintro e9 w9 ⟨rfl, rfl⟩)
        | (go_at_call 65; (with_reducible refine HS2.out.mono ?_); rintro e8 w8 ⟨⟨p8, lf8, kA8, kn8, kc8, vA8, vn8, vc8, dA8, dn8, dc8⟩, us, rfl, hp8, hl8, o8, b8⟩; simp only at hp8 hl8; subst hp8 hl8; unfold ndV; simp only; have O8 := Lib.hid o8; have B8 := Lib.hid b8; have z6 := HV6.out.below b8 HV6.out.lt; have q0 := z6.cell 0; have q1 := z6.cell 1; have q2 := z6.cell 2; have q3 := z6.cell 3; have q4 := z6.cell 4; have f0 := z6.free 0; have f1 := z6.free 1; have f2 := z6.free 2; have f3 := z6.free 3; have f4 := z6.free 4; have Z6 := Lib.hid z6; clear o8 b8 z6))
      have XE := Z6.out.st5 (.int .i64 0) (.bool true) (.slice kA8 kn8 kc8) (.slice vA8 vn8 vc8) (.slice dA8 dn8 dc8)
      have e0 := XE.cell 0
      have e1 := XE.cell 1
      have e2 := XE.cell 2
      have e3 := XE.cell 3
      have e4 := XE.cell 4
      unfold st5 at e0 e1 e2 e3 e4
      simp at e0 e1 e2 e3 e4
      have hord := HORD.out
      have hbv := HBV.out.size
      refine ⟨rfl, .agg #[.int .i64 0, .bool true, .slice kA8 kn8 kc8, .slice vA8 vn8 vc8, .slice dA8 dn8 dc8], ?_, ⟨0, true, kA8, kn8, kc8, vA8, vn8, vc8, dA8, dn8, dc8⟩, rfl, ?_, ?_⟩
      · simp [results, Try.f64, go_sem, e0, e1, e2, e3, e4]
      · exact rep_box (G := Fo) (S0 := W.heap.size) (RepT.mono (OwnN.rep (t := .leaf 0 (putL c l)) (z := ⟨0, true, kA8, kn8, kc8, vA8, vn8, vc8, dA8, dn8, dc8⟩) ⟨rfl, rfl, us, O8.out⟩) fun q hq => hq.elim (fun h => h) (fun h => .inr (by have h1 := HWV.out; omega))) (fun q hq => hq) HFW.out (by omega) (by omega) _ _ _ _ _
      · exact below_st5 (below_step HBV.out B8.out) (by omega) _ _ _ _ _
  · have hk2 := (List.getElem?_eq_some_iff.1 hy).1
    have HPL : Hid (swapL k (k + 1) l [c] = putL c l) := Lib.hid (by
      rw [put_idx l k y hr hy hyk]
      rfl)
    have hkb : k ≤ 500 := by have := HN.out; omega
    have HS2 := Lib.hid (HSW.out k (k + 1) (by omega) (by omega))
    rw [HPL.out, show (((k + 1 : Nat)) : Int) = (k : Int) + 1 by omega] at HS2
    have i5 : (0 : Int) ≤ (k : Int) := by omega
    clear hy hyk hk2 hr
    go_enter Try.func64, Try.ntmps64
    go_upto_region 2 with (fail)
    rw [HV.out]
    go_wp2_with (first
      | (go_at_call 48; (with_reducible refine (HIX.out _ _ _ _ _ HZ.out HKR.out hknb).mono ?_); rintro e9 w9 ⟨rfl, rfl⟩)
      | (go_at_call 65; (with_reducible refine HS2.out.mono ?_); rintro e8 w8 ⟨⟨p8, lf8, kA8, kn8, kc8, vA8, vn8, vc8, dA8, dn8, dc8⟩, us, rfl, hp8, hl8, o8, b8⟩; simp only at hp8 hl8; subst hp8 hl8; unfold ndV; simp only; have O8 := Lib.hid o8; have B8 := Lib.hid b8; have z6 := HV6.out.below b8 HV6.out.lt; have q0 := z6.cell 0; have q1 := z6.cell 1; have q2 := z6.cell 2; have q3 := z6.cell 3; have q4 := z6.cell 4; have f0 := z6.free 0; have f1 := z6.free 1; have f2 := z6.free 2; have f3 := z6.free 3; have f4 := z6.free 4; have Z6 := Lib.hid z6; clear o8 b8 z6))
    have XE := Z6.out.st5 (.int .i64 0) (.bool true) (.slice kA8 kn8 kc8) (.slice vA8 vn8 vc8) (.slice dA8 dn8 dc8)
    have e0 := XE.cell 0
    have e1 := XE.cell 1
    have e2 := XE.cell 2
    have e3 := XE.cell 3
    have e4 := XE.cell 4
    unfold st5 at e0 e1 e2 e3 e4
    simp at e0 e1 e2 e3 e4
    have hord := HORD.out
    have hbv := HBV.out.size
    refine ⟨rfl, .agg #[.int .i64 0, .bool true, .slice kA8 kn8 kc8, .slice vA8 vn8 vc8, .slice dA8 dn8 dc8], ?_, ⟨0, true, kA8, kn8, kc8, vA8, vn8, vc8, dA8, dn8, dc8⟩, rfl, ?_, ?_⟩
    · simp [results, Try.f64, go_sem, e0, e1, e2, e3, e4]
    · exact rep_box (G := Fo) (S0 := W.heap.size) (RepT.mono (OwnN.rep (t := .leaf 0 (putL c l)) (z := ⟨0, true, kA8, kn8, kc8, vA8, vn8, vc8, dA8, dn8, dc8⟩) ⟨rfl, rfl, us, O8.out⟩) fun q hq => hq.elim (fun h => h) (fun h => .inr (by have h1 := HWV.out; omega))) (fun q hq => hq) HFW.out (by omega) (by omega) _ _ _ _ _
    · exact below_st5 (below_step HBV.out B8.out) (by omega) _ _ _ _ _
end Go.Proofs.Ytpaklhifnndeoaa
end

section
namespace Go.Proofs.Ytpaklhifnndeoaa
open Go.RowKit
set_option linter.unusedVariables false

inductive PutB (c : Lf) : Tr → Prop where
  | leaf (p : Int) (l : List Lf) (h : l.length ≤ 100) : PutB c (.leaf p l)
  | branch (p : Int) (l : List (List UInt8 × Tr)) (h0 : l ≠ []) (h1 : l.length ≤ 100) (h2 : ∀ x ∈ l, x.1.length ≤ 500 ∧ BndN 50 x.2) (h3 : evenT l) (h4 : PutB c (kidT l (wayT l c.k)).2) (h5 : BndN 50 (putT c (kidT l (wayT l c.k)).2)) : PutB c (.branch p l)
end Go.Proofs.Ytpaklhifnndeoaa
end
