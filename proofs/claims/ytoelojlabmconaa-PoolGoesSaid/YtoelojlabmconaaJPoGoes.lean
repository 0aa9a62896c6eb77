import Derived.Test.YtoelojlabmconaaJ19
/- Of a claim's texts, joined: PoGoes. No statement but in the last. -/
namespace Go.Proofs.Ytoelojlabmconaa
open Go.RowKit
set_option linter.unusedVariables false

set_option maxRecDepth 100000 in
set_option maxHeartbeats 16000000 in
theorem walkPoolGoes (p : Pd) (h : Int) (q mm : Nat) (hhi : p.hi = h) (A B : Option Addr) (n c m d : Nat) (W : World) (hp : PoolA W A n c B m d p) (hf : p.free.length ≤ 140737488355328) (hw : ∀ x ∈ p.wait, x.2.length ≤ 140737488355328) (hq : q < 256) (hmm : mm < 65536) :
    Calls Try.prog 5 #[.agg #[.int .i64 h, .slice A n c, .slice B m d], .int .u8 (q : Int), .int .u16 (mm : Int)] W fun e W' => e = .returned (.bool true) ∧ Below W.heap.size W W' := by
  have hmx : Try.prog.follows .mixedOrders = true := by kernel_rfl
  obtain ⟨wP, hwP⟩ : ∃ wP, W.alloc (.cells #[.int .i64 h, .slice A n c, .slice B m d] 25) = wP := ⟨_, rfl⟩
  have HX : Hid (∀ w1, Below wP.heap.size wP w1 → BPool 25 w1 W.heap.size h A n c B m d p) := Lib.hid (fun w1 b1 => ⟨(BoxP.made (h := h) hp hwP w1 b1).1, (BoxP.made (h := h) hp hwP w1 b1).2⟩)
  have HWP := Lib.hid hwP
  have HAW := Lib.hid (awake13_any wP)
  have HSM := Lib.hid (fun w1 (b1 : Below wP.heap.size wP w1) => small13_any p h hhi (HX.out w1 b1).po hf hw)
  have HBX := Lib.hid (fun w1 (b1 : Below wP.heap.size wP w1) => below_box hwP b1)
  have q0 : (0 : Int) ≤ (q : Int) := by omega
  have q1 : (q : Int) ≤ 255 := by omega
  have q2 : (q : Int) < 256 := by omega
  clear hp hwP hf hw
  cases hsm : smallP p with
  | false =>
    rw [hsm] at HSM
    go_enter Try.func5, Try.ntmps5
    go_wp2_with (first
      | (go_at_call 7; (try rw [HWP.out]); (with_reducible refine HAW.out.mono ?_); rintro e w1 ⟨rfl, b1⟩; have B1 := Lib.hid b1; have a0 := (HX.out w1 b1).hs.cell 0; have a1 := (HX.out w1 b1).hs.cell 1; have a2 := (HX.out w1 b1).hs.cell 2; clear b1)
      | (go_at_call 8; (with_reducible refine (HSM.out _ B1.out).mono ?_); rintro e w2 ⟨rfl, b2⟩; have B2 := Lib.hid (below_step B1.out b2); have f0 := (HX.out w2 B2.out).hs.cell 0; have f1 := (HX.out w2 B2.out).hs.cell 1; have f2 := (HX.out w2 B2.out).hs.cell 2; clear b2))
    go_ret
    exact ⟨rfl, HBX.out _ B2.out⟩
  | true =>
    rw [hsm] at HSM
    have hsr := smallP_says hsm
    have hsr2 := smallP_few hsm
    have HCP := Lib.hid (fun w1 (b1 : Below wP.heap.size wP w1) => oCheck13_any p h 1000 hhi (HX.out w1 b1).po hsr)
    cases hck : checkP p 1000 with
    | false =>
      rw [hck] at HCP
      go_enter Try.func5, Try.ntmps5
      go_wp2_with (first
        | (go_at_call 7; (try rw [HWP.out]); (with_reducible refine HAW.out.mono ?_); rintro e w1 ⟨rfl, b1⟩; have B1 := Lib.hid b1; have a0 := (HX.out w1 b1).hs.cell 0; have a1 := (HX.out w1 b1).hs.cell 1; have a2 := (HX.out w1 b1).hs.cell 2; clear b1)
        | (go_at_call 8; (with_reducible refine (HSM.out _ B1.out).mono ?_); rintro e w2 ⟨rfl, b2⟩; have B2 := Lib.hid (below_step B1.out b2); have f0 := (HX.out w2 B2.out).hs.cell 0; have f1 := (HX.out w2 B2.out).hs.cell 1; have f2 := (HX.out w2 B2.out).hs.cell 2; clear b2)
        | (go_at_call 10; (with_reducible refine (HCP.out _ B2.out).mono ?_); rintro e w3 ⟨rfl, b3⟩; have B3 := Lib.hid (below_step B2.out b3); have g0 := (HX.out w3 B3.out).hs.cell 0; have g1 := (HX.out w3 B3.out).hs.cell 1; have g2 := (HX.out w3 B3.out).hs.cell 2; clear b3))
      go_ret
      exact ⟨rfl, HBX.out _ B3.out⟩
    | true =>
      rw [hck] at HCP
      by_cases hhq : (q : Int) < h
      · go_enter Try.func5, Try.ntmps5
        go_wp2_with (first
          | (go_at_call 7; (try rw [HWP.out]); (with_reducible refine HAW.out.mono ?_); rintro e w1 ⟨rfl, b1⟩; have B1 := Lib.hid b1; have a0 := (HX.out w1 b1).hs.cell 0; have a1 := (HX.out w1 b1).hs.cell 1; have a2 := (HX.out w1 b1).hs.cell 2; clear b1)
          | (go_at_call 8; (with_reducible refine (HSM.out _ B1.out).mono ?_); rintro e w2 ⟨rfl, b2⟩; have B2 := Lib.hid (below_step B1.out b2); have f0 := (HX.out w2 B2.out).hs.cell 0; have f1 := (HX.out w2 B2.out).hs.cell 1; have f2 := (HX.out w2 B2.out).hs.cell 2; clear b2)
          | (go_at_call 10; (with_reducible refine (HCP.out _ B2.out).mono ?_); rintro e w3 ⟨rfl, b3⟩; have B3 := Lib.hid (below_step B2.out b3); have g0 := (HX.out w3 B3.out).hs.cell 0; have g1 := (HX.out w3 B3.out).hs.cell 1; have g2 := (HX.out w3 B3.out).hs.cell 2; clear b3))
        go_ret
        exact ⟨rfl, HBX.out _ B3.out⟩
      have hok := checkP_iff.1 hck
      obtain ⟨aa, haa⟩ : ∃ aa, mm % 256 = aa := ⟨_, rfl⟩
      obtain ⟨bb, hbb⟩ : ∃ bb, mm / 256 = bb := ⟨_, rfl⟩
      have ha256 : aa < 256 := by omega
      have hb256 : bb < 256 := by omega
      have r1 : (mm : Int).tmod 256 = (aa : Int) := by rw [Int.tmod_eq_emod_of_nonneg (by omega)]; omega
      have r2 : (mm : Int) % 256 = (aa : Int) := by omega
      have r3 : (mm : Int).tdiv 256 = (bb : Int) := by rw [Int.tdiv_eq_ediv_of_nonneg (by omega)]; omega
      have r4 : (mm : Int) / 256 = (bb : Int) := by omega
      obtain ⟨ab, hab⟩ : ∃ ab, aa + bb = ab := ⟨_, rfl⟩
      have habI : (aa : Int) + (bb : Int) = (ab : Int) := by omega
      obtain ⟨ro, hro⟩ : ∃ ro, roomP p (q : Int) = ro := ⟨_, rfl⟩
      have HT1 := Lib.hid (fun w1 (b1 : Below wP.heap.size wP w1) => oTake13_any p h (q : Int) (aa : Int) hhi (HX.out w1 b1).po hsr (by omega) (by omega))
      have HT3 := Lib.hid (fun w1 (b1 : Below wP.heap.size wP w1) => oTake13_any p h (q : Int) (ab : Int) hhi (HX.out w1 b1).po hsr (by omega) (by omega))
      have HRP := Lib.hid (fun w1 (h1 : PoolA w1 A n c B m d p) => oRoom13_any p h (q : Int) hhi h1 hsr (by omega))
      rw [hro, Int.toNat_natCast] at HT1
      rw [hro, Int.toNat_natCast] at HT3
      rw [hro] at HRP
      have HHQ := Lib.hid hhq
      have hqh : p.hi ≤ (q : Int) := by omega
      by_cases hA : (aa : Int) ≤ ro
      · have dA : decide (0 ≤ (aa : Int) ∧ (aa : Int) ≤ ro) = true := decide_eq_true ⟨by omega, hA⟩
        rw [dA] at HT1
        have hrt := roomP_take (p := p) (q := (q : Int)) (k := aa) hqh (by rw [hro]; exact hA)
        have hsx := takeP_small (k := aa) hsr (by omega)
        rw [hro] at hrt
        have HTX := Lib.hid (fun w1 hx A n c B m d (e : hx = (takeP p aa).hi) (h1 : PoolA w1 A n c B m d (takeP p aa)) => (by have := oTake13_any (takeP p aa) hx (q : Int) (bb : Int) e.symm h1 hsx (by omega) (by omega); rw [hrt.1, Int.toNat_natCast, takeP_two, hab] at this; exact this : Calls Try.prog 19 #[.agg #[.int .i64 hx, .slice A n c, .slice B m d], .int .i64 (q : Int), .int .i64 (bb : Int)] w1 fun e w' => ∃ h' A' n' c' B' m' d' L nl cl, e = .returned (.tuple #[.agg #[.int .i64 h', .slice A' n' c', .slice B' m' d'], .slice L nl cl, .bool (decide (0 ≤ (bb : Int) ∧ (bb : Int) ≤ ro - (aa : Int)))]) ∧ Below w1.heap.size w1 w' ∧
          (0 ≤ (bb : Int) ∧ (bb : Int) ≤ ro - (aa : Int) → h' = (takeP p ab).hi ∧ PoolN w' w1.heap.size A' n' c' B' m' d' (takeP p ab) ∧ w'.ownsRow w1.heap.size 3 1 (.slice L nl cl) nl ((takenP (takeP p aa) bb).map (Value.int .i64))) ∧
          (¬ (0 ≤ (bb : Int) ∧ (bb : Int) ≤ ro - (aa : Int)) → h' = hx ∧ PoolN w' w1.heap.size A' n' c' B' m' d' (takeP p aa) ∧ nl = 0)))
        have HAI := Lib.hid hA
        by_cases hB : (ab : Int) ≤ ro
        · have dB : decide (0 ≤ (ab : Int) ∧ (ab : Int) ≤ ro) = true := decide_eq_true ⟨by omega, hB⟩
          rw [dB] at HT3
          have dB2 : decide (0 ≤ (bb : Int) ∧ (bb : Int) ≤ ro - (aa : Int)) = true := decide_eq_true ⟨by omega, by omega⟩
          rw [dB2] at HTX
          have HBI := Lib.hid hB
          have hrb := roomP_take (p := p) (q := (q : Int)) (k := ab) hqh (by rw [hro]; exact hB)
          rw [hro] at hrb
          have hsy := takeP_small (k := ab) hsr (by omega)
          have HTK : Hid (takenP p aa ++ takenP (takeP p aa) bb = takenP p ab) := Lib.hid (by rw [takenP_two, hab])
          obtain ⟨i0, hi, hz0, hz1, hz2⟩ := info_parts int_info13
          have HRY := Lib.hid (fun w1 {A : Option Addr} {n c : Nat} {B : Option Addr} {m d : Nat} hz (e : hz = (takeP p ab).hi) (h1 : PoolA w1 A n c B m d (takeP p ab)) => (by have := oRoom13_any (takeP p ab) hz (q : Int) e.symm h1 hsy (by omega); rw [hrb.1] at this; exact this : Calls Try.prog 12 #[.agg #[.int .i64 hz, .slice A n c, .slice B m d], .int .i64 (q : Int)] w1 fun e w' => e = .returned (.int .i64 (ro - (ab : Int))) ∧ Below w1.heap.size w1 w'))
          have HPL := Lib.hid (fun w1 hz A n c B m d (h1 : PoolA w1 A n c B m d (takeP p ab)) => plain13_any (takeP p ab) hz h1 (by have := h1.wait.len; have := hsy.2.1; omega))
          have HSA := Lib.hid (fun w1 hz A B A' B' n c m d c' d' (h1 : PoolA w1 A n c B m d (takeP p ab)) (h2 : PoolA w1 A' n c' B' m d' (takeP p ab)) => r13Same_z (takeP p ab) hz h1 h2 (by have := hsy.1; omega))
          have HIN := Lib.hid (fun w1 A7 A8 n7 c7 c8 (r7 : RowZ w1 A7 n7 c7 (takenP p ab)) (r8 : RowZ w1 A8 n7 c8 (takenP p ab)) => r3Ints_z (takenP p ab) A7 A8 n7 c7 c8 w1 r7.len r7.reads r8.reads (by rw [r7.len, takenP_len]; omega))
          have HINC := Lib.hid (takenP_inc hok ab)
          have HREL := Lib.hid (fun w1 hz A n c B m d (e : hz = (takeP p ab).hi) (h1 : PoolA w1 A n c B m d (takeP p ab)) => oRel13_any (takeP p ab) hz 0 false hok.txn (by decide) h1 hsy)
          have hsg := relP_small hsy 0 false
          have HGIV := Lib.hid (fun w1 hz A n c B m d L nl cl (e : hz = (takeP p ab).hi) (h1 : PoolA w1 A n c B m d (relP (takeP p ab) 0 false)) (h2 : RowZ w1 L nl cl (takenP p ab)) => oGive13_any (relP (takeP p ab) 0 false) hz 1 (takenP p ab) L nl cl (fun x hx => by rw [relP_none] at hx; cases hx) (by decide) h1 h2 hsg (by rw [h2.len, takenP_len]; omega))
          rw [show ((0 : Nat) : Int) = 0 from rfl] at HREL
          rw [show ((1 : Nat) : Int) = 1 from rfl] at HGIV
          have HBI2 := Lib.hid hrb.2
          have hgs := goes_small (p := p) (k := ab) (by omega) (by omega) (by omega) (by omega)
          have hgc := goes_ok hok ab hrb.2 0
          have HCH := Lib.hid (fun w1 {A : Option Addr} {n c : Nat} {B : Option Addr} {m d : Nat} hz (e : hz = (takeP p ab).hi) (h1 : PoolA w1 A n c B m d (giveP (relP (takeP p ab) 0 false) 1 (takenP p ab))) => (by have := oCheck13_any (giveP (relP (takeP p ab) 0 false) 1 (takenP p ab)) hz (q : Int) ((giveP_hi _ _ _).trans e.symm) h1 hgs; rw [checkP_iff.2 hgc] at this; exact this : Calls Try.prog 10 #[.agg #[.int .i64 hz, .slice A n c, .slice B m d], .int .i64 (q : Int)] w1 fun e w' => e = .returned (.bool true) ∧ Below w1.heap.size w1 w'))
          clear dA dB dB2 hok hsr hrt hsx hgs hgc haa hbb hck hsm hA hB
          go_enter Try.func5, Try.ntmps5
          go_wp2_with (first
            | (go_at_call 7; (try rw [HWP.out]); (with_reducible refine HAW.out.mono ?_); rintro e w1 ⟨rfl, b1⟩; have B1 := Lib.hid b1; have a0 := (HX.out w1 b1).hs.cell 0; have a1 := (HX.out w1 b1).hs.cell 1; have a2 := (HX.out w1 b1).hs.cell 2; clear b1)
            | (go_at_call 8; (with_reducible refine (HSM.out _ B1.out).mono ?_); rintro e w2 ⟨rfl, b2⟩; have B2 := Lib.hid (below_step B1.out b2); have f0 := (HX.out w2 B2.out).hs.cell 0; have f1 := (HX.out w2 B2.out).hs.cell 1; have f2 := (HX.out w2 B2.out).hs.cell 2; clear b2)
            | (go_at_call 10; (with_reducible refine (HCP.out _ B2.out).mono ?_); rintro e w3 ⟨rfl, b3⟩; have B3 := Lib.hid (below_step B2.out b3); have g0 := (HX.out w3 B3.out).hs.cell 0; have g1 := (HX.out w3 B3.out).hs.cell 1; have g2 := (HX.out w3 B3.out).hs.cell 2; clear b3)
            | (go_at_call 19; (with_reducible refine (HT1.out _ B3.out).mono ?_); rintro e w4 ⟨hx, Ax, nx, cx, Bx, mx, dx, Ll, nl, cl, rfl, bw4, qw4⟩; obtain ⟨V4, hV4⟩ : ∃ V4, w4.alloc (.cells #[.int .i64 hx, .slice Ax nx cx, .slice Bx mx dx] 25) = V4 := ⟨_, rfl⟩; have bbw4 : Below w4.heap.size w4 V4 := hV4 ▸ (Below.refl _ w4).alloc (Nat.le_refl _) _; have BV4 := Lib.hid (below_step (below_step B3.out bw4) bbw4); have EV4 := Lib.hid (below_step bw4 bbw4); have BBV4 := Lib.hid bbw4; have KHV4 : Hid (Has V4 w4.heap.size 25 #[.int .i64 hx, .slice Ax nx cx, .slice Bx mx dx]) := Lib.hid (hV4 ▸ Has.made w4 _ _); have QV4 := Lib.hid qw4; have x0 := KHV4.out.cell 0; have x1 := KHV4.out.cell 1; have x2 := KHV4.out.cell 2; have y0 := (HX.out _ BV4.out).hs.cell 0; have y1 := (HX.out _ BV4.out).hs.cell 1; have y2 := (HX.out _ BV4.out).hs.cell 2; rw [← hV4] at x0 x1 x2 y0 y1 y2; have HV4 := Lib.hid hV4; have N4 := Lib.hid ((qw4.1 ⟨by omega, by have := HAI.out; omega⟩).2.1.below bbw4); have OL := Lib.hid (qw4.1 ⟨by omega, by have := HAI.out; omega⟩).2.2; have HT2 := Lib.hid (HTX.out V4 hx Ax nx cx Bx mx dx (qw4.1 ⟨by omega, by have := HAI.out; omega⟩).1 N4.out.pool); clear qw4 bw4 bbw4 hV4)
            | (go_at_call 19; (try rw [HV4.out]); (with_reducible refine (HT2.out).mono ?_); rintro e w5 ⟨hy, Ay, ny, cy, By, my, dy, Lm, nm, cm, rfl, bw5, qw5⟩; obtain ⟨V5, hV5⟩ : ∃ V5, w5.alloc (.cells #[.int .i64 hy, .slice Ay ny cy, .slice By my dy] 25) = V5 := ⟨_, rfl⟩; have bbw5 : Below w5.heap.size w5 V5 := hV5 ▸ (Below.refl _ w5).alloc (Nat.le_refl _) _; have BV5 := Lib.hid (below_step (below_step BV4.out bw5) bbw5); have EV5 := Lib.hid (below_step bw5 bbw5); have BBV5 := Lib.hid bbw5; have KHV5 : Hid (Has V5 w5.heap.size 25 #[.int .i64 hy, .slice Ay ny cy, .slice By my dy]) := Lib.hid (hV5 ▸ Has.made w5 _ _); have QV5 := Lib.hid qw5; have x0 := KHV5.out.cell 0; have x1 := KHV5.out.cell 1; have x2 := KHV5.out.cell 2; have y0 := (HX.out _ BV5.out).hs.cell 0; have y1 := (HX.out _ BV5.out).hs.cell 1; have y2 := (HX.out _ BV5.out).hs.cell 2; rw [← hV5] at x0 x1 x2 y0 y1 y2; have HV5 := Lib.hid hV5; have z5 := (qw5.1 ⟨by omega, by have := HBI.out; omega⟩); have N5 := Lib.hid (z5.2.1.below bbw5); have RM := Lib.hid z5.2.2; have HY := Lib.hid z5.1; clear z5; clear qw5 bw5 bbw5 hV5)
            | (go_at_call 19; (try rw [HV5.out]); (with_reducible refine (HT3.out _ BV5.out).mono ?_); rintro e w6 ⟨hz, Az, nz, cz, Bz, mz, dz, Ln, nn, cn, rfl, bw6, qw6⟩; obtain ⟨V6, hV6⟩ : ∃ V6, w6.alloc (.cells #[.int .i64 hz, .slice Az nz cz, .slice Bz mz dz] 25) = V6 := ⟨_, rfl⟩; have bbw6 : Below w6.heap.size w6 V6 := hV6 ▸ (Below.refl _ w6).alloc (Nat.le_refl _) _; have BV6 := Lib.hid (below_step (below_step BV5.out bw6) bbw6); have EV6 := Lib.hid (below_step bw6 bbw6); have BBV6 := Lib.hid bbw6; have KHV6 : Hid (Has V6 w6.heap.size 25 #[.int .i64 hz, .slice Az nz cz, .slice Bz mz dz]) := Lib.hid (hV6 ▸ Has.made w6 _ _); have QV6 := Lib.hid qw6; have x0 := KHV6.out.cell 0; have x1 := KHV6.out.cell 1; have x2 := KHV6.out.cell 2; have y0 := (HX.out _ BV6.out).hs.cell 0; have y1 := (HX.out _ BV6.out).hs.cell 1; have y2 := (HX.out _ BV6.out).hs.cell 2; rw [← hV6] at x0 x1 x2 y0 y1 y2; have HV6 := Lib.hid hV6; have z6 := (qw6.1 ⟨by omega, by have := HBI.out; omega⟩); have N6 := Lib.hid (z6.2.1.below bbw6); have RN := Lib.hid z6.2.2; have HZ := Lib.hid z6.1; have OL6 := Lib.hid (own_below13 (own_below13 OL.out (below_step BBV4.out EV5.out)) EV6.out); have OM6 := Lib.hid (own_below13 RM.out (below_step BBV5.out EV6.out)); clear z6; clear qw6 bw6 bbw6 hV6)
            | (at_builtin; (try rw [HV6.out]); refine wpList_append_zs rfl _ _ 22 rfl w3.heap.size 3 i0 Try.underlying22 hi hz0 hz1 hz2 _ nl _ rfl OL6.out Lm nm cm (takenP (takeP p aa) bb) rfl (by have := OM6.out.1; simpa using this.symm) (fun e => by have h7 := RowZ.own OM6.out; obtain ⟨A7, c7, e7, r7⟩ := h7; injection e7 with e8 e9 e10; subst e8 e10; exact r7.nil e) (by obtain ⟨A7, c7, e7, r7⟩ := RowZ.own OM6.out; injection e7 with e8 e9 e10; subst e8 e10; exact r7.reads) (by have h7 := OL6.out.1; have h8 := OM6.out.1; rw [List.length_map, takenP_len] at h7 h8; omega) (Nat.le_trans (Nat.le_trans EV4.out.size EV5.out.size) EV6.out.size) ?_; intro v9 w9 h7 h8; rw [← List.map_append, HTK.out] at h7; obtain ⟨n9, hn9⟩ : ∃ n9, nl + nm = n9 := ⟨_, rfl⟩; rw [hn9] at h7; obtain ⟨L9, c9, hv9, r9⟩ := RowZ.own h7; subst hv9; obtain rfl : n9 = nn := (by have h10 := r9.len; have h11 := RN.out.1; rw [List.length_map] at h11; omega); have R9 := Lib.hid r9; have G9 := Lib.hid h8; clear h7 h8 r9 hn9))
          have BP9 : Below wP.heap.size wP w9 := BV6.out.grown G9.out BV6.out.size (fun k hk => Nat.le_trans B3.out.size (OL6.out.lt k hk).1)
          have s4 : w4.heap.size ≤ V4.heap.size := BBV4.out.size
          have s5 : V4.heap.size ≤ V5.heap.size := EV5.out.size
          have NY9 := ((N5.out.below EV6.out).own OL.out s4 G9.out)
          have NZ9 := (N6.out.own OL.out (Nat.le_trans s4 s5) G9.out)
          have KY9 := (KHV5.out.below EV6.out KHV5.out.lt).kept13 OL6.out (by decide) G9.out
          have KZ9 := KHV6.out.kept13 OL6.out (by decide) G9.out
          have RN9 : RowZ w9 Ln n9 cn (takenP p ab) := by
            obtain ⟨A7, c7, e7, r7⟩ := RowZ.own (own_other13 (own_below13 RN.out BBV6.out) OL.out (Nat.le_trans s4 s5) G9.out)
            injection e7 with e8 e9 e10
            subst e8 e10
            exact r7
          obtain rfl : hz = hy := by rw [HY.out, HZ.out]
          have hS9 : (fun w' : World => (BPool 25 w' W.heap.size h A n c B m d p) ∧ (BPool 25 w' w5.heap.size hz Ay ny cy By my dy (takeP p ab)) ∧ (BPool 25 w' w6.heap.size hz Az nz cz Bz mz dz (takeP p ab)) ∧ (RowZ w' L9 n9 c9 (takenP p ab) ∧ RowZ w' Ln n9 cn (takenP p ab)) ∧ Below W.heap.size W w') w9 := ⟨HX.out _ BP9, ⟨KY9, NY9.pool⟩, ⟨KZ9, NZ9.pool⟩, ⟨R9.out, RN9⟩, HBX.out _ BP9⟩
          have hSd : (fun w' : World => (BPool 25 w' W.heap.size h A n c B m d p) ∧ (BPool 25 w' w5.heap.size hz Ay ny cy By my dy (takeP p ab)) ∧ (BPool 25 w' w6.heap.size hz Az nz cz Bz mz dz (takeP p ab)) ∧ (RowZ w' L9 n9 c9 (takenP p ab) ∧ RowZ w' Ln n9 cn (takenP p ab)) ∧ Below W.heap.size W w') w9.drew := ⟨hS9.1.below (Below.refl _ _).drew, hS9.2.1.below (Below.refl _ _).drew, hS9.2.2.1.below (Below.refl _ _).drew, ⟨hS9.2.2.2.1.1.below (Below.refl _ _).drew, hS9.2.2.2.1.2.below (Below.refl _ _).drew⟩, below_step hS9.2.2.2.2 (Below.refl _ _).drew⟩
          have HRY := Lib.hid (fun w1 {A : Option Addr} {n c : Nat} {B : Option Addr} {m d : Nat} (h1 : PoolA w1 A n c B m d (takeP p ab)) => HRY.out w1 hz HZ.out h1)
          have HPL := Lib.hid (fun w1 A n c B m d (h1 : PoolA w1 A n c B m d (takeP p ab)) => HPL.out w1 hz A n c B m d h1)
          have HSA := Lib.hid (fun w1 A B A' B' n c m d c' d' (h1 : PoolA w1 A n c B m d (takeP p ab)) (h2 : PoolA w1 A' n c' B' m d' (takeP p ab)) => HSA.out w1 hz A B A' B' n c m d c' d' h1 h2)
          have HIN := Lib.hid (fun w1 (r7 : RowZ w1 L9 n9 c9 (takenP p ab)) (r8 : RowZ w1 Ln n9 cn (takenP p ab)) => HIN.out w1 L9 Ln n9 c9 cn r7 r8)
          have HROB : Hid (-1125899906842624 ≤ ro ∧ ro ≤ 1125899906842624) := Lib.hid (by have := hsr2.1; rw [← hro]; unfold roomP; split <;> omega)
          have hw24 : IntKind.i64.wrap (ro - (aa : Int)) = ro - (aa : Int) := by have := HROB.out; rw [IntKind.wrap_i64]; omega
          have hw26 : IntKind.i64.wrap (ro - (aa : Int) - (bb : Int)) = ro - (aa : Int) - (bb : Int) := by have := HROB.out; rw [IntKind.wrap_i64]; omega
          have hne : ((ro - (ab : Int)) != (ro - (aa : Int) - (bb : Int))) = false := by simp; omega
          have HABI := Lib.hid habI
          clear hS9 BP9 NY9 NZ9 KY9 KZ9 RN9 s4 s5 x0 x1 x2 y0 y1 y2 habI hro hsr2
          first | (rename_i K hK; refine wp_held (fun w' : World => (BPool 25 w' W.heap.size h A n c B m d p) ∧ (BPool 25 w' w5.heap.size hz Ay ny cy By my dy (takeP p ab)) ∧ (BPool 25 w' w6.heap.size hz Az nz cz Bz mz dz (takeP p ab)) ∧ (RowZ w' L9 n9 c9 (takenP p ab) ∧ RowZ w' Ln n9 cn (takenP p ab)) ∧ Below W.heap.size W w') K hmx ?_ (fun _ _ h => h)) | (rename_i K hK hz; refine wp_held (fun w' : World => (BPool 25 w' W.heap.size h A n c B m d p) ∧ (BPool 25 w' w5.heap.size hz Ay ny cy By my dy (takeP p ab)) ∧ (BPool 25 w' w6.heap.size hz Az nz cz Bz mz dz (takeP p ab)) ∧ (RowZ w' L9 n9 c9 (takenP p ab) ∧ RowZ w' Ln n9 cn (takenP p ab)) ∧ Below W.heap.size W w') K hmx ?_ (fun _ _ h => h))
          refine wpAnyH_take (i := 0) (v := .bool true) (lit rfl) (by kernel_rfl) (by kernel_rfl) (by kernel_rfl) (fun _ _ _ h => h) (Or.inl ⟨by rfl, ?_⟩) hSd ?_
          · rintro w6 ⟨sp, sy, sz, sr, sb⟩
            go_simp
          simp only [Act.put, List.setIfInBounds_toArray, List.set_cons_zero, List.set_cons_succ]
          refine wpAnyH_take (i := 1) (v := .bool false) (lit rfl) (by kernel_rfl) (by kernel_rfl) (by kernel_rfl) (fun _ _ _ h => h) (Or.inl ⟨by rfl, ?_⟩) hSd ?_
          · rintro w6 ⟨sp, sy, sz, sr, sb⟩
            go_simp
          simp only [Act.put, List.setIfInBounds_toArray, List.set_cons_zero, List.set_cons_succ]
          refine wpAnyH_take (i := 2) (v := .bool false) (lit rfl) (by kernel_rfl) (by kernel_rfl) (by kernel_rfl) (fun _ _ _ h => h) (Or.inl ⟨by rfl, ?_⟩) hSd ?_
          · rintro w6 ⟨sp, sy, sz, sr, sb⟩
            go_simp
          simp only [Act.put, List.setIfInBounds_toArray, List.set_cons_zero, List.set_cons_succ]
          refine wpAnyH_take (i := 3) (v := .slice L9 n9 c9) (lit rfl) (by kernel_rfl) (by kernel_rfl) (by kernel_rfl) (fun _ _ _ h => h) (Or.inl ⟨by rfl, ?_⟩) hSd ?_
          · rintro w6 ⟨sp, sy, sz, sr, sb⟩
            go_simp
          simp only [Act.put, List.setIfInBounds_toArray, List.set_cons_zero, List.set_cons_succ]
          refine wpAnyH_take (i := 4) (v := .slice Ln n9 cn) (lit rfl) (by kernel_rfl) (by kernel_rfl) (by kernel_rfl) (fun _ _ _ h => h) (Or.inl ⟨by rfl, ?_⟩) hSd ?_
          · rintro w6 ⟨sp, sy, sz, sr, sb⟩
            go_simp
          simp only [Act.put, List.setIfInBounds_toArray, List.set_cons_zero, List.set_cons_succ]
          refine wpAnyH_ready (rs := [5]) (by kernel_rfl) (by simp) ?_
          refine AllReadyH.cons (lit rfl) (fun K5 hK5 => ?_) AllReadyH.nil
          go_simp
          go_at_call 16
          (with_reducible refine (HIN.out _ hSd.2.2.2.1.1 hSd.2.2.2.1.2).mono ?_)
          rintro e20 w20 ⟨rfl, b20⟩
          have h20 : (fun w' : World => (BPool 25 w' W.heap.size h A n c B m d p) ∧ (BPool 25 w' w5.heap.size hz Ay ny cy By my dy (takeP p ab)) ∧ (BPool 25 w' w6.heap.size hz Az nz cz Bz mz dz (takeP p ab)) ∧ (RowZ w' L9 n9 c9 (takenP p ab) ∧ RowZ w' Ln n9 cn (takenP p ab)) ∧ Below W.heap.size W w') w20 := ⟨hSd.1.below b20, hSd.2.1.below b20, hSd.2.2.1.below b20, ⟨hSd.2.2.2.1.1.below b20, hSd.2.2.2.1.2.below b20⟩, below_step hSd.2.2.2.2 b20⟩
          refine hK5.out _ _ h20 (fun _ => ?_)
          clear hK5 K5
          refine wpAnyH_take (i := 6) (v := .bool false) (lit rfl) (by kernel_rfl) (by kernel_rfl) (by kernel_rfl) (fun _ _ _ h => h) (Or.inl ⟨by rfl, ?_⟩) h20 ?_
          · rintro w6 ⟨sp, sy, sz, sr, sb⟩
            go_simp
          simp only [Act.put, List.setIfInBounds_toArray, List.set_cons_zero, List.set_cons_succ]
          refine wpAnyH_take (i := 7) (v := .bool false) (lit rfl) (by kernel_rfl) (by kernel_rfl) (by kernel_rfl) (fun _ _ _ h => h) (Or.inl ⟨by rfl, ?_⟩) h20 ?_
          · rintro w6 ⟨sp, sy, sz, sr, sb⟩
            go_simp
          simp only [Act.put, List.setIfInBounds_toArray, List.set_cons_zero, List.set_cons_succ]
          refine wpAnyH_take (i := 8) (v := .bool false) (lit rfl) (by kernel_rfl) (by kernel_rfl) (by kernel_rfl) (fun _ _ _ h => h) (Or.inl ⟨by rfl, ?_⟩) h20 ?_
          · rintro w6 ⟨sp, sy, sz, sr, sb⟩
            go_simp
          simp only [Act.put, List.setIfInBounds_toArray, List.set_cons_zero, List.set_cons_succ]
          refine wpAnyH_take (i := 9) (v := .agg #[.int .i64 hz, .slice Ay ny cy, .slice By my dy]) (lit rfl) (by kernel_rfl) (by kernel_rfl) (by kernel_rfl) (fun _ _ _ h => h) (Or.inl ⟨by rfl, ?_⟩) h20 ?_
          · rintro w6 ⟨sp, sy, sz, sr, sb⟩
            have a0 := sy.hs.cell 0
            have a1 := sy.hs.cell 1
            have a2 := sy.hs.cell 2
            go_simp
          simp only [Act.put, List.setIfInBounds_toArray, List.set_cons_zero, List.set_cons_succ]
          refine wpAnyH_take (i := 11) (v := .agg #[.int .i64 hz, .slice Az nz cz, .slice Bz mz dz]) (lit rfl) (by kernel_rfl) (by kernel_rfl) (by kernel_rfl) (fun _ _ _ h => h) (Or.inl ⟨by rfl, ?_⟩) h20 ?_
          · rintro w6 ⟨sp, sy, sz, sr, sb⟩
            have a0 := sz.hs.cell 0
            have a1 := sz.hs.cell 1
            have a2 := sz.hs.cell 2
            go_simp
          simp only [Act.put, List.setIfInBounds_toArray, List.set_cons_zero, List.set_cons_succ]
          refine wpAnyH_ready (rs := [10]) (by kernel_rfl) (by simp) ?_
          refine AllReadyH.cons (lit rfl) (fun K5 hK5 => ?_) AllReadyH.nil
          go_simp
          go_at_call 9
          (with_reducible refine (HPL.out _ _ _ _ _ _ _ h20.2.1.po).mono ?_)
          rintro e21 w21 ⟨By2, dy2, rfl, py2, b21⟩
          have h21 : (fun w' : World => (BPool 25 w' W.heap.size h A n c B m d p) ∧ (BPool 25 w' w5.heap.size hz Ay ny cy By my dy (takeP p ab)) ∧ (BPool 25 w' w6.heap.size hz Az nz cz Bz mz dz (takeP p ab)) ∧ (RowZ w' L9 n9 c9 (takenP p ab) ∧ RowZ w' Ln n9 cn (takenP p ab)) ∧ Below W.heap.size W w') w21 := ⟨h20.1.below b21, h20.2.1.below b21, h20.2.2.1.below b21, ⟨h20.2.2.2.1.1.below b21, h20.2.2.2.1.2.below b21⟩, below_step h20.2.2.2.2 b21⟩
          refine hK5.out _ _ h21 (fun _ => ?_)
          clear hK5 K5
          refine wpAnyH_ready (rs := [12]) (by kernel_rfl) (by simp) ?_
          refine AllReadyH.cons (lit rfl) (fun K5 hK5 => ?_) AllReadyH.nil
          go_simp
          go_at_call 9
          (with_reducible refine (HPL.out _ _ _ _ _ _ _ h21.2.2.1.po).mono ?_)
          rintro e22 w22 ⟨Bz2, dz2, rfl, pz2, b22⟩
          have h22 : (fun w' : World => (BPool 25 w' W.heap.size h A n c B m d p) ∧ (BPool 25 w' w5.heap.size hz Ay ny cy By my dy (takeP p ab)) ∧ (BPool 25 w' w6.heap.size hz Az nz cz Bz mz dz (takeP p ab)) ∧ (RowZ w' L9 n9 c9 (takenP p ab) ∧ RowZ w' Ln n9 cn (takenP p ab)) ∧ Below W.heap.size W w') w22 := ⟨h21.1.below b22, h21.2.1.below b22, h21.2.2.1.below b22, ⟨h21.2.2.2.1.1.below b22, h21.2.2.2.1.2.below b22⟩, below_step h21.2.2.2.2 b22⟩
          have py3 := py2.below b22
          obtain rfl : nz = ny := by rw [py3.free.len, pz2.free.len]
          obtain rfl : mz = my := by rw [py3.wait.len, pz2.wait.len]
          refine hK5.out _ _ h22 (fun _ => ?_)
          clear hK5 K5
          refine wpAnyH_ready (rs := [13]) (by kernel_rfl) (by simp) ?_
          refine AllReadyH.cons (lit rfl) (fun K5 hK5 => ?_) AllReadyH.nil
          go_simp
          go_at_call 22
          (with_reducible refine (HSA.out _ _ _ _ _ _ _ _ _ _ _ py3 pz2).mono ?_)
          rintro e23 w23 ⟨rfl, b23⟩
          have h23 : (fun w' : World => (BPool 25 w' W.heap.size h A n c B m d p) ∧ (BPool 25 w' w5.heap.size hz Ay nz cy By mz dy (takeP p ab)) ∧ (BPool 25 w' w6.heap.size hz Az nz cz Bz mz dz (takeP p ab)) ∧ (RowZ w' L9 n9 c9 (takenP p ab) ∧ RowZ w' Ln n9 cn (takenP p ab)) ∧ Below W.heap.size W w') w23 := ⟨h22.1.below b23, h22.2.1.below b23, h22.2.2.1.below b23, ⟨h22.2.2.2.1.1.below b23, h22.2.2.2.1.2.below b23⟩, below_step h22.2.2.2.2 b23⟩
          refine hK5.out _ _ h23 (fun _ => ?_)
          clear hK5 K5
          refine wpAnyH_take (i := 14) (v := .bool false) (lit rfl) (by kernel_rfl) (by kernel_rfl) (by kernel_rfl) (fun _ _ _ h => h) (Or.inl ⟨by rfl, ?_⟩) h23 ?_
          · rintro w6 ⟨sp, sy, sz, sr, sb⟩
            go_simp
          simp only [Act.put, List.setIfInBounds_toArray, List.set_cons_zero, List.set_cons_succ]
          refine wpAnyH_take (i := 15) (v := .bool false) (lit rfl) (by kernel_rfl) (by kernel_rfl) (by kernel_rfl) (fun _ _ _ h => h) (Or.inl ⟨by rfl, ?_⟩) h23 ?_
          · rintro w6 ⟨sp, sy, sz, sr, sb⟩
            go_simp
          simp only [Act.put, List.setIfInBounds_toArray, List.set_cons_zero, List.set_cons_succ]
          refine wpAnyH_take (i := 16) (v := .bool false) (lit rfl) (by kernel_rfl) (by kernel_rfl) (by kernel_rfl) (fun _ _ _ h => h) (Or.inl ⟨by rfl, ?_⟩) h23 ?_
          · rintro w6 ⟨sp, sy, sz, sr, sb⟩
            go_simp
          simp only [Act.put, List.setIfInBounds_toArray, List.set_cons_zero, List.set_cons_succ]
          refine wpAnyH_take (i := 17) (v := .agg #[.int .i64 hz, .slice Ay nz cy, .slice By mz dy]) (lit rfl) (by kernel_rfl) (by kernel_rfl) (by kernel_rfl) (fun _ _ _ h => h) (Or.inl ⟨by rfl, ?_⟩) h23 ?_
          · rintro w6 ⟨sp, sy, sz, sr, sb⟩
            have a0 := sy.hs.cell 0
            have a1 := sy.hs.cell 1
            have a2 := sy.hs.cell 2
            go_simp
          simp only [Act.put, List.setIfInBounds_toArray, List.set_cons_zero, List.set_cons_succ]
          refine wpAnyH_take (i := 18) (v := .int .i64 (q : Int)) (lit rfl) (by kernel_rfl) (by kernel_rfl) (by kernel_rfl) (fun _ _ _ h => h) (Or.inl ⟨by rfl, ?_⟩) h23 ?_
          · rintro w6 ⟨sp, sy, sz, sr, sb⟩
            go_simp
          simp only [Act.put, List.setIfInBounds_toArray, List.set_cons_zero, List.set_cons_succ]
          refine wpAnyH_take (i := 20) (v := .agg #[.int .i64 h, .slice A n c, .slice B m d]) (lit rfl) (by kernel_rfl) (by kernel_rfl) (by kernel_rfl) (fun _ _ _ h => h) (Or.inl ⟨by rfl, ?_⟩) h23 ?_
          · rintro w6 ⟨sp, sy, sz, sr, sb⟩
            have a0 := sp.hs.cell 0
            have a1 := sp.hs.cell 1
            have a2 := sp.hs.cell 2
            go_simp
          simp only [Act.put, List.setIfInBounds_toArray, List.set_cons_zero, List.set_cons_succ]
          refine wpAnyH_take (i := 21) (v := .int .i64 (q : Int)) (lit rfl) (by kernel_rfl) (by kernel_rfl) (by kernel_rfl) (fun _ _ _ h => h) (Or.inl ⟨by rfl, ?_⟩) h23 ?_
          · rintro w6 ⟨sp, sy, sz, sr, sb⟩
            go_simp
          simp only [Act.put, List.setIfInBounds_toArray, List.set_cons_zero, List.set_cons_succ]
          refine wpAnyH_take (i := 23) (v := .int .i64 (aa : Int)) (lit rfl) (by kernel_rfl) (by kernel_rfl) (by kernel_rfl) (fun _ _ _ h => h) (Or.inl ⟨by rfl, ?_⟩) h23 ?_
          · rintro w6 ⟨sp, sy, sz, sr, sb⟩
            go_simp
          simp only [Act.put, List.setIfInBounds_toArray, List.set_cons_zero, List.set_cons_succ]
          refine wpAnyH_take (i := 25) (v := .int .i64 (bb : Int)) (lit rfl) (by kernel_rfl) (by kernel_rfl) (by kernel_rfl) (fun _ _ _ h => h) (Or.inl ⟨by rfl, ?_⟩) h23 ?_
          · rintro w6 ⟨sp, sy, sz, sr, sb⟩
            go_simp
          simp only [Act.put, List.setIfInBounds_toArray, List.set_cons_zero, List.set_cons_succ]
          refine wpAnyH_ready (rs := [19]) (by kernel_rfl) (by simp) ?_
          refine AllReadyH.cons (lit rfl) (fun K5 hK5 => ?_) AllReadyH.nil
          go_simp
          go_at_call 12
          (with_reducible refine (HRY.out _ h23.2.1.po).mono ?_)
          rintro e24 w24 ⟨rfl, b24⟩
          have h24 : (fun w' : World => (BPool 25 w' W.heap.size h A n c B m d p) ∧ (BPool 25 w' w5.heap.size hz Ay nz cy By mz dy (takeP p ab)) ∧ (BPool 25 w' w6.heap.size hz Az nz cz Bz mz dz (takeP p ab)) ∧ (RowZ w' L9 n9 c9 (takenP p ab) ∧ RowZ w' Ln n9 cn (takenP p ab)) ∧ Below W.heap.size W w') w24 := ⟨h23.1.below b24, h23.2.1.below b24, h23.2.2.1.below b24, ⟨h23.2.2.2.1.1.below b24, h23.2.2.2.1.2.below b24⟩, below_step h23.2.2.2.2 b24⟩
          refine hK5.out _ _ h24 (fun _ => ?_)
          clear hK5 K5
          refine wpAnyH_ready (rs := [22]) (by kernel_rfl) (by simp) ?_
          refine AllReadyH.cons (lit rfl) (fun K5 hK5 => ?_) AllReadyH.nil
          go_simp
          go_at_call 12
          (with_reducible refine (HRP.out _ h24.1.po).mono ?_)
          rintro e25 w25 ⟨rfl, b25⟩
          have h25 : (fun w' : World => (BPool 25 w' W.heap.size h A n c B m d p) ∧ (BPool 25 w' w5.heap.size hz Ay nz cy By mz dy (takeP p ab)) ∧ (BPool 25 w' w6.heap.size hz Az nz cz Bz mz dz (takeP p ab)) ∧ (RowZ w' L9 n9 c9 (takenP p ab) ∧ RowZ w' Ln n9 cn (takenP p ab)) ∧ Below W.heap.size W w') w25 := ⟨h24.1.below b25, h24.2.1.below b25, h24.2.2.1.below b25, ⟨h24.2.2.2.1.1.below b25, h24.2.2.2.1.2.below b25⟩, below_step h24.2.2.2.2 b25⟩
          refine hK5.out _ _ h25 (fun _ => ?_)
          clear hK5 K5
          refine wpAnyH_take (i := 24) (v := .int .i64 (ro - (aa : Int))) (lit rfl) (by kernel_rfl) (by kernel_rfl) (by kernel_rfl) (fun _ _ _ h => h) (Or.inl ⟨by rfl, ?_⟩) h25 ?_
          · rintro w6 ⟨sp, sy, sz, sr, sb⟩
            go_simp
          simp only [Act.put, List.setIfInBounds_toArray, List.set_cons_zero, List.set_cons_succ]
          refine wpAnyH_take (i := 26) (v := .int .i64 (ro - (aa : Int) - (bb : Int))) (lit rfl) (by kernel_rfl) (by kernel_rfl) (by kernel_rfl) (fun _ _ _ h => h) (Or.inl ⟨by rfl, ?_⟩) h25 ?_
          · rintro w6 ⟨sp, sy, sz, sr, sb⟩
            go_simp
          simp only [Act.put, List.setIfInBounds_toArray, List.set_cons_zero, List.set_cons_succ]
          refine wpAnyH_take (i := 27) (v := .bool false) (lit rfl) (by kernel_rfl) (by kernel_rfl) (by kernel_rfl) (fun _ _ _ h => h) (Or.inl ⟨by rfl, ?_⟩) h25 ?_
          · rintro w6 ⟨sp, sy, sz, sr, sb⟩
            go_simp
          simp only [Act.put, List.setIfInBounds_toArray, List.set_cons_zero, List.set_cons_succ]
          refine wpAnyH_take (i := 28) (v := .bool false) (lit rfl) (by kernel_rfl) (by kernel_rfl) (by kernel_rfl) (fun _ _ _ h => h) (Or.inl ⟨by rfl, ?_⟩) h25 ?_
          · rintro w6 ⟨sp, sy, sz, sr, sb⟩
            go_simp
          simp only [Act.put, List.setIfInBounds_toArray, List.set_cons_zero, List.set_cons_succ]
          refine wpAnyH_done (by kernel_rfl) ?_ _
          refine hK _ _ ?_
          go_wp2
          go_loopw [21] (fun i wr => ∃ j : Nat, j ≤ n9 ∧ i = .int .i64 ((j + 1 : Nat) : Int) ∧ (fun w' : World => (BPool 25 w' W.heap.size h A n c B m d p) ∧ (BPool 25 w' w5.heap.size hz Ay nz cy By mz dy (takeP p ab)) ∧ (BPool 25 w' w6.heap.size hz Az nz cz Bz mz dz (takeP p ab)) ∧ (RowZ w' L9 n9 c9 (takenP p ab) ∧ RowZ w' Ln n9 cn (takenP p ab)) ∧ Below W.heap.size W w') wr) (fun i _ => n9 - (intOf i).toNat)
          case atStart => exact ⟨0, Nat.zero_le _, rfl, h25⟩
          case round =>
            obtain ⟨j, hj, rfl, hS⟩ := hrel
            have HN9 := Lib.hid hS.2.2.2.1.2.len
            have hn0 : n9 ≤ 510 := by have := HN9.out; rw [takenP_len] at this; omega
            have HS0 := Lib.hid hS
            clear hS
            by_cases hlt : j + 1 < n9
            · have hkl : j + 1 < (takenP p ab).length := by rw [← HN9.out]; exact hlt
              obtain ⟨g9, o9, rfl, c1⟩ := HS0.out.2.2.2.1.2.reads.zint hkl
              obtain ⟨g', o', e', c0⟩ := HS0.out.2.2.2.1.2.reads.zint (show j < (takenP p ab).length by omega)
              injection e' with e'
              injection e' with e1 e2 _
              subst e1 e2
              have hvu : (takenP p ab)[j] < (takenP p ab)[j + 1] := List.pairwise_iff_getElem.1 HINC.out j (j + 1) (by omega) hkl (by omega)
              generalize (takenP p ab)[j + 1] = u at c1 hvu
              generalize (takenP p ab)[j] = v at c0 hvu
              have hSd : (fun w' : World => w'.cell? ⟨g9, o9 + (j + 1), none⟩ = some (.int .i64 u) ∧ w'.cell? ⟨g9, o9 + j, none⟩ = some (.int .i64 v)) wr.drew := ⟨c1, c0⟩
              have i0' : ((j : Int) + 1 < 0) = False := eq_false (by omega)
              have i1' : ((j + 1 : Nat) : Int) < (n9 : Int) := by omega
              have i2' : (j : Int) < (n9 : Int) := by omega
              have i3' : (0 : Int) ≤ (j : Int) := by omega
              have hw6 : IntKind.i64.wrap (j : Int) = (j : Int) := by rw [IntKind.wrap_i64]; omega
              clear c1 c0 hkl
              have BDR : Below wr.heap.size wr wr.drew := (Below.refl _ _).drew
              go_wp2
              first | (rename_i K hK; refine wp_held (fun w' : World => w'.cell? ⟨g9, o9 + (j + 1), none⟩ = some (.int .i64 u) ∧ w'.cell? ⟨g9, o9 + j, none⟩ = some (.int .i64 v)) K hmx ?_ (fun _ _ h => h)) | (rename_i K hK hz; refine wp_held (fun w' : World => w'.cell? ⟨g9, o9 + (j + 1), none⟩ = some (.int .i64 u) ∧ w'.cell? ⟨g9, o9 + j, none⟩ = some (.int .i64 v)) K hmx ?_ (fun _ _ h => h))
              refine wpAnyH_take (i := 0) (v := .slice (some ⟨g9, o9, none⟩) n9 cn) (lit rfl) (by kernel_rfl) (by kernel_rfl) (by kernel_rfl) (fun _ _ _ h => h) (Or.inl ⟨by rfl, ?_⟩) hSd ?_
              · rintro w6 ⟨k1, k2⟩
                go_simp
              simp only [Act.put, List.setIfInBounds_toArray, List.set_cons_zero, List.set_cons_succ]
              refine wpAnyH_take (i := 1) (v := .int .i64 ((j + 1 : Nat) : Int)) (lit rfl) (by kernel_rfl) (by kernel_rfl) (by kernel_rfl) (fun _ _ _ h => h) (Or.inl ⟨by rfl, ?_⟩) hSd ?_
              · rintro w6 ⟨k1, k2⟩
                go_simp
              simp only [Act.put, List.setIfInBounds_toArray, List.set_cons_zero, List.set_cons_succ]
              refine wpAnyH_take (i := 2) (v := .pointer (some ⟨g9, o9 + (j + 1), none⟩)) (lit rfl) (by kernel_rfl) (by kernel_rfl) (by kernel_rfl) (fun _ _ _ h => h) (Or.inl ⟨by rfl, ?_⟩) hSd ?_
              · rintro w6 ⟨k1, k2⟩
                go_simp
              simp only [Act.put, List.setIfInBounds_toArray, List.set_cons_zero, List.set_cons_succ]
              refine wpAnyH_take (i := 3) (v := .int .i64 u) (lit rfl) (by kernel_rfl) (by kernel_rfl) (by kernel_rfl) (fun _ _ _ h => h) (Or.inl ⟨by rfl, ?_⟩) hSd ?_
              · rintro w6 ⟨k1, k2⟩
                go_simp
              simp only [Act.put, List.setIfInBounds_toArray, List.set_cons_zero, List.set_cons_succ]
              refine wpAnyH_take (i := 4) (v := .slice (some ⟨g9, o9, none⟩) n9 cn) (lit rfl) (by kernel_rfl) (by kernel_rfl) (by kernel_rfl) (fun _ _ _ h => h) (Or.inl ⟨by rfl, ?_⟩) hSd ?_
              · rintro w6 ⟨k1, k2⟩
                go_simp
              simp only [Act.put, List.setIfInBounds_toArray, List.set_cons_zero, List.set_cons_succ]
              refine wpAnyH_take (i := 5) (v := .int .i64 ((j + 1 : Nat) : Int)) (lit rfl) (by kernel_rfl) (by kernel_rfl) (by kernel_rfl) (fun _ _ _ h => h) (Or.inl ⟨by rfl, ?_⟩) hSd ?_
              · rintro w6 ⟨k1, k2⟩
                go_simp
              simp only [Act.put, List.setIfInBounds_toArray, List.set_cons_zero, List.set_cons_succ]
              refine wpAnyH_take (i := 6) (v := .int .i64 (j : Int)) (lit rfl) (by kernel_rfl) (by kernel_rfl) (by kernel_rfl) (fun _ _ _ h => h) (Or.inl ⟨by rfl, ?_⟩) hSd ?_
              · rintro w6 ⟨k1, k2⟩
                go_simp
              simp only [Act.put, List.setIfInBounds_toArray, List.set_cons_zero, List.set_cons_succ]
              refine wpAnyH_take (i := 7) (v := .pointer (some ⟨g9, o9 + j, none⟩)) (lit rfl) (by kernel_rfl) (by kernel_rfl) (by kernel_rfl) (fun _ _ _ h => h) (Or.inl ⟨by rfl, ?_⟩) hSd ?_
              · rintro w6 ⟨k1, k2⟩
                go_simp
              simp only [Act.put, List.setIfInBounds_toArray, List.set_cons_zero, List.set_cons_succ]
              refine wpAnyH_take (i := 8) (v := .int .i64 v) (lit rfl) (by kernel_rfl) (by kernel_rfl) (by kernel_rfl) (fun _ _ _ h => h) (Or.inl ⟨by rfl, ?_⟩) hSd ?_
              · rintro w6 ⟨k1, k2⟩
                go_simp
              simp only [Act.put, List.setIfInBounds_toArray, List.set_cons_zero, List.set_cons_succ]
              refine wpAnyH_take (i := 9) (v := .bool false) (lit rfl) (by kernel_rfl) (by kernel_rfl) (by kernel_rfl) (fun _ _ _ h => h) (Or.inl ⟨by rfl, ?_⟩) hSd ?_
              · rintro w6 ⟨k1, k2⟩
                go_simp
              simp only [Act.put, List.setIfInBounds_toArray, List.set_cons_zero, List.set_cons_succ]
              refine wpAnyH_done (by kernel_rfl) ?_ _
              refine hK _ _ ?_
              go_wp2
              go_roundw
              case rel => exact ⟨j + 1, by omega, by go_num, ⟨HS0.out.1.below BDR, HS0.out.2.1.below BDR, HS0.out.2.2.1.below BDR, ⟨HS0.out.2.2.2.1.1.below BDR, HS0.out.2.2.2.1.2.below BDR⟩, below_step HS0.out.2.2.2.2 BDR⟩⟩
              case measure => simp [intOf]; omega
            · have i1' : ¬ (((j + 1 : Nat) : Int) < (n9 : Int)) := by omega
              have y0 := HS0.out.2.1.hs.cell 0
              have y1 := HS0.out.2.1.hs.cell 1
              have y2 := HS0.out.2.1.hs.cell 2
              go_wp2_with (first
                | (go_at_call 21; (with_reducible refine (HREL.out _ _ _ _ _ _ _ _ HZ.out HS0.out.2.1.po).mono ?_); rintro e w26 ⟨Ar, nr, cr, Br, mr, dr, rfl, p26, b26⟩; have P26 := Lib.hid p26; have B26 := Lib.hid b26; clear p26 b26)
                | (go_at_call 20; (with_reducible refine (HGIV.out _ _ _ _ _ _ _ _ _ _ _ HZ.out P26.out (HS0.out.2.2.2.1.2.below B26.out)).mono ?_); rintro e w27 ⟨Ag, ng, cg, Bg, mg, dg, rfl, p27, b27⟩; have P27 := Lib.hid p27; have B27 := Lib.hid (below_step B26.out b27); clear p27 b27)
                | (go_at_call 10; (with_reducible refine (HCH.out _ _ HZ.out P27.out).mono ?_); rintro e w28 ⟨rfl, b28⟩; have B28 := Lib.hid (below_step B27.out b28); clear b28))
              go_ret
              exact ⟨rfl, below_step HS0.out.2.2.2.2 B28.out⟩
        · have dB : decide (0 ≤ (ab : Int) ∧ (ab : Int) ≤ ro) = false := decide_eq_false (fun e => hB e.2)
          rw [dB] at HT3
          have dB2 : decide (0 ≤ (bb : Int) ∧ (bb : Int) ≤ ro - (aa : Int)) = false := decide_eq_false (fun e => hB (by omega))
          rw [dB2] at HTX
          clear dA dB dB2 hok hsr hsr2 hrt hsx hro haa hbb hab hck hsm hqh hA hB
          go_enter Try.func5, Try.ntmps5
          go_wp2_with (first
            | (go_at_call 7; (try rw [HWP.out]); (with_reducible refine HAW.out.mono ?_); rintro e w1 ⟨rfl, b1⟩; have B1 := Lib.hid b1; have a0 := (HX.out w1 b1).hs.cell 0; have a1 := (HX.out w1 b1).hs.cell 1; have a2 := (HX.out w1 b1).hs.cell 2; clear b1)
            | (go_at_call 8; (with_reducible refine (HSM.out _ B1.out).mono ?_); rintro e w2 ⟨rfl, b2⟩; have B2 := Lib.hid (below_step B1.out b2); have f0 := (HX.out w2 B2.out).hs.cell 0; have f1 := (HX.out w2 B2.out).hs.cell 1; have f2 := (HX.out w2 B2.out).hs.cell 2; clear b2)
            | (go_at_call 10; (with_reducible refine (HCP.out _ B2.out).mono ?_); rintro e w3 ⟨rfl, b3⟩; have B3 := Lib.hid (below_step B2.out b3); have g0 := (HX.out w3 B3.out).hs.cell 0; have g1 := (HX.out w3 B3.out).hs.cell 1; have g2 := (HX.out w3 B3.out).hs.cell 2; clear b3)
            | (go_at_call 19; (with_reducible refine (HT1.out _ B3.out).mono ?_); rintro e w4 ⟨hx, Ax, nx, cx, Bx, mx, dx, Ll, nl, cl, rfl, bw4, qw4⟩; obtain ⟨V4, hV4⟩ : ∃ V4, w4.alloc (.cells #[.int .i64 hx, .slice Ax nx cx, .slice Bx mx dx] 25) = V4 := ⟨_, rfl⟩; have bbw4 : Below w4.heap.size w4 V4 := hV4 ▸ (Below.refl _ w4).alloc (Nat.le_refl _) _; have BV4 := Lib.hid (below_step (below_step B3.out bw4) bbw4); have EV4 := Lib.hid (below_step bw4 bbw4); have BBV4 := Lib.hid bbw4; have KHV4 : Hid (Has V4 w4.heap.size 25 #[.int .i64 hx, .slice Ax nx cx, .slice Bx mx dx]) := Lib.hid (hV4 ▸ Has.made w4 _ _); have QV4 := Lib.hid qw4; have x0 := KHV4.out.cell 0; have x1 := KHV4.out.cell 1; have x2 := KHV4.out.cell 2; have y0 := (HX.out _ BV4.out).hs.cell 0; have y1 := (HX.out _ BV4.out).hs.cell 1; have y2 := (HX.out _ BV4.out).hs.cell 2; rw [← hV4] at x0 x1 x2 y0 y1 y2; have HV4 := Lib.hid hV4; have N4 := Lib.hid ((qw4.1 ⟨by omega, by have := HAI.out; omega⟩).2.1.below bbw4); have OL := Lib.hid (qw4.1 ⟨by omega, by have := HAI.out; omega⟩).2.2; have HT2 := Lib.hid (HTX.out V4 hx Ax nx cx Bx mx dx (qw4.1 ⟨by omega, by have := HAI.out; omega⟩).1 N4.out.pool); clear qw4 bw4 bbw4 hV4)
            | (go_at_call 19; (try rw [HV4.out]); (with_reducible refine (HT2.out).mono ?_); rintro e w5 ⟨hy, Ay, ny, cy, By, my, dy, Lm, nm, cm, rfl, bw5, qw5⟩; obtain ⟨V5, hV5⟩ : ∃ V5, w5.alloc (.cells #[.int .i64 hy, .slice Ay ny cy, .slice By my dy] 25) = V5 := ⟨_, rfl⟩; have bbw5 : Below w5.heap.size w5 V5 := hV5 ▸ (Below.refl _ w5).alloc (Nat.le_refl _) _; have BV5 := Lib.hid (below_step (below_step BV4.out bw5) bbw5); have EV5 := Lib.hid (below_step bw5 bbw5); have BBV5 := Lib.hid bbw5; have KHV5 : Hid (Has V5 w5.heap.size 25 #[.int .i64 hy, .slice Ay ny cy, .slice By my dy]) := Lib.hid (hV5 ▸ Has.made w5 _ _); have QV5 := Lib.hid qw5; have x0 := KHV5.out.cell 0; have x1 := KHV5.out.cell 1; have x2 := KHV5.out.cell 2; have y0 := (HX.out _ BV5.out).hs.cell 0; have y1 := (HX.out _ BV5.out).hs.cell 1; have y2 := (HX.out _ BV5.out).hs.cell 2; rw [← hV5] at x0 x1 x2 y0 y1 y2; have HV5 := Lib.hid hV5; clear qw5 bw5 bbw5 hV5)
            | (go_at_call 19; (try rw [HV5.out]); (with_reducible refine (HT3.out _ BV5.out).mono ?_); rintro e w6 ⟨hz, Az, nz, cz, Bz, mz, dz, Ln, nn, cn, rfl, bw6, qw6⟩; obtain ⟨V6, hV6⟩ : ∃ V6, w6.alloc (.cells #[.int .i64 hz, .slice Az nz cz, .slice Bz mz dz] 25) = V6 := ⟨_, rfl⟩; have bbw6 : Below w6.heap.size w6 V6 := hV6 ▸ (Below.refl _ w6).alloc (Nat.le_refl _) _; have BV6 := Lib.hid (below_step (below_step BV5.out bw6) bbw6); have EV6 := Lib.hid (below_step bw6 bbw6); have BBV6 := Lib.hid bbw6; have KHV6 : Hid (Has V6 w6.heap.size 25 #[.int .i64 hz, .slice Az nz cz, .slice Bz mz dz]) := Lib.hid (hV6 ▸ Has.made w6 _ _); have QV6 := Lib.hid qw6; have x0 := KHV6.out.cell 0; have x1 := KHV6.out.cell 1; have x2 := KHV6.out.cell 2; have y0 := (HX.out _ BV6.out).hs.cell 0; have y1 := (HX.out _ BV6.out).hs.cell 1; have y2 := (HX.out _ BV6.out).hs.cell 2; rw [← hV6] at x0 x1 x2 y0 y1 y2; have HV6 := Lib.hid hV6; clear qw6 bw6 bbw6 hV6))
          all_goals
            go_ret
            exact ⟨rfl, HV6.out ▸ HBX.out _ BV6.out⟩
      · have dA : decide (0 ≤ (aa : Int) ∧ (aa : Int) ≤ ro) = false := decide_eq_false (fun e => hA e.2)
        rw [dA] at HT1
        have dB : decide (0 ≤ (ab : Int) ∧ (ab : Int) ≤ ro) = false := decide_eq_false (fun e => hA (by omega))
        rw [dB] at HT3
        have HAI := Lib.hid hA
        have HSR := Lib.hid hsr
        have HHI := Lib.hid hhi
        clear dA dB hok hsr hsr2 hro haa hbb hab hck hsm hqh hA hhi
        go_enter Try.func5, Try.ntmps5
        go_wp2_with (first
          | (go_at_call 7; (try rw [HWP.out]); (with_reducible refine HAW.out.mono ?_); rintro e w1 ⟨rfl, b1⟩; have B1 := Lib.hid b1; have a0 := (HX.out w1 b1).hs.cell 0; have a1 := (HX.out w1 b1).hs.cell 1; have a2 := (HX.out w1 b1).hs.cell 2; clear b1)
          | (go_at_call 8; (with_reducible refine (HSM.out _ B1.out).mono ?_); rintro e w2 ⟨rfl, b2⟩; have B2 := Lib.hid (below_step B1.out b2); have f0 := (HX.out w2 B2.out).hs.cell 0; have f1 := (HX.out w2 B2.out).hs.cell 1; have f2 := (HX.out w2 B2.out).hs.cell 2; clear b2)
          | (go_at_call 10; (with_reducible refine (HCP.out _ B2.out).mono ?_); rintro e w3 ⟨rfl, b3⟩; have B3 := Lib.hid (below_step B2.out b3); have g0 := (HX.out w3 B3.out).hs.cell 0; have g1 := (HX.out w3 B3.out).hs.cell 1; have g2 := (HX.out w3 B3.out).hs.cell 2; clear b3)
          | (go_at_call 19; (with_reducible refine (HT1.out _ B3.out).mono ?_); rintro e w4 ⟨hx, Ax, nx, cx, Bx, mx, dx, Ll, nl, cl, rfl, bw4, qw4⟩; obtain ⟨V4, hV4⟩ : ∃ V4, w4.alloc (.cells #[.int .i64 hx, .slice Ax nx cx, .slice Bx mx dx] 25) = V4 := ⟨_, rfl⟩; have bbw4 : Below w4.heap.size w4 V4 := hV4 ▸ (Below.refl _ w4).alloc (Nat.le_refl _) _; have BV4 := Lib.hid (below_step (below_step B3.out bw4) bbw4); have EV4 := Lib.hid (below_step bw4 bbw4); have BBV4 := Lib.hid bbw4; have KHV4 : Hid (Has V4 w4.heap.size 25 #[.int .i64 hx, .slice Ax nx cx, .slice Bx mx dx]) := Lib.hid (hV4 ▸ Has.made w4 _ _); have QV4 := Lib.hid qw4; have x0 := KHV4.out.cell 0; have x1 := KHV4.out.cell 1; have x2 := KHV4.out.cell 2; have y0 := (HX.out _ BV4.out).hs.cell 0; have y1 := (HX.out _ BV4.out).hs.cell 1; have y2 := (HX.out _ BV4.out).hs.cell 2; rw [← hV4] at x0 x1 x2 y0 y1 y2; have HV4 := Lib.hid hV4; have N4 := Lib.hid ((qw4.2 (fun e => absurd e.2 (by have := HAI.out; omega))).2.1.below bbw4); have HT2 := Lib.hid (oTake13_any p hx (q : Int) (bb : Int) (HHI.out.trans (qw4.2 (fun e => absurd e.2 (by have := HAI.out; omega))).1.symm) N4.out.pool HSR.out ⟨by omega, by omega⟩ ⟨by omega, by omega⟩); clear qw4 bw4 bbw4 hV4)
          | (go_at_call 19; (try rw [HV4.out]); (with_reducible refine (HT2.out).mono ?_); rintro e w5 ⟨hy, Ay, ny, cy, By, my, dy, Lm, nm, cm, rfl, bw5, qw5⟩; obtain ⟨V5, hV5⟩ : ∃ V5, w5.alloc (.cells #[.int .i64 hy, .slice Ay ny cy, .slice By my dy] 25) = V5 := ⟨_, rfl⟩; have bbw5 : Below w5.heap.size w5 V5 := hV5 ▸ (Below.refl _ w5).alloc (Nat.le_refl _) _; have BV5 := Lib.hid (below_step (below_step BV4.out bw5) bbw5); have EV5 := Lib.hid (below_step bw5 bbw5); have BBV5 := Lib.hid bbw5; have KHV5 : Hid (Has V5 w5.heap.size 25 #[.int .i64 hy, .slice Ay ny cy, .slice By my dy]) := Lib.hid (hV5 ▸ Has.made w5 _ _); have QV5 := Lib.hid qw5; have x0 := KHV5.out.cell 0; have x1 := KHV5.out.cell 1; have x2 := KHV5.out.cell 2; have y0 := (HX.out _ BV5.out).hs.cell 0; have y1 := (HX.out _ BV5.out).hs.cell 1; have y2 := (HX.out _ BV5.out).hs.cell 2; rw [← hV5] at x0 x1 x2 y0 y1 y2; have HV5 := Lib.hid hV5; clear qw5 bw5 bbw5 hV5)
          | (go_at_call 19; (try rw [HV5.out]); (with_reducible refine (HT3.out _ BV5.out).mono ?_); rintro e w6 ⟨hz, Az, nz, cz, Bz, mz, dz, Ln, nn, cn, rfl, bw6, qw6⟩; obtain ⟨V6, hV6⟩ : ∃ V6, w6.alloc (.cells #[.int .i64 hz, .slice Az nz cz, .slice Bz mz dz] 25) = V6 := ⟨_, rfl⟩; have bbw6 : Below w6.heap.size w6 V6 := hV6 ▸ (Below.refl _ w6).alloc (Nat.le_refl _) _; have BV6 := Lib.hid (below_step (below_step BV5.out bw6) bbw6); have EV6 := Lib.hid (below_step bw6 bbw6); have BBV6 := Lib.hid bbw6; have KHV6 : Hid (Has V6 w6.heap.size 25 #[.int .i64 hz, .slice Az nz cz, .slice Bz mz dz]) := Lib.hid (hV6 ▸ Has.made w6 _ _); have QV6 := Lib.hid qw6; have x0 := KHV6.out.cell 0; have x1 := KHV6.out.cell 1; have x2 := KHV6.out.cell 2; have y0 := (HX.out _ BV6.out).hs.cell 0; have y1 := (HX.out _ BV6.out).hs.cell 1; have y2 := (HX.out _ BV6.out).hs.cell 2; rw [← hV6] at x0 x1 x2 y0 y1 y2; have HV6 := Lib.hid hV6; clear qw6 bw6 bbw6 hV6))
        all_goals
          go_ret
          exact ⟨rfl, HV6.out ▸ HBX.out _ BV6.out⟩
end Go.Proofs.Ytoelojlabmconaa
