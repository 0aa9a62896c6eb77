import Derived.Test.YtoelojlabmconaaJ19
/- Of a claim's texts, joined: PoRel. No statement but in the last. -/
namespace Go.Proofs.Ytoelojlabmconaa
open Go.RowKit
set_option linter.unusedVariables false

set_option maxRecDepth 100000 in
set_option maxHeartbeats 16000000 in
theorem walkPoolReleases (p : Pd) (h : Int) (a b : Nat) (hhi : p.hi = h) (A B : Option Addr) (n c m d : Nat) (W : World) (hp : PoolA W A n c B m d p) (hf : p.free.length ≤ 140737488355328) (hw : ∀ x ∈ p.wait, x.2.length ≤ 140737488355328) (ha : a < 2 ^ 64) (hb : b < 2 ^ 64) :
    Calls Try.prog 6 #[.agg #[.int .i64 h, .slice A n c, .slice B m d], .int .u64 (a : Int), .int .u64 (b : Int)] W fun e W' => e = .returned (.bool true) ∧ Below W.heap.size W W' := by
  have hmx : Try.prog.follows .mixedOrders = true := by kernel_rfl
  obtain ⟨wP, hwP⟩ : ∃ wP, W.alloc (.cells #[.int .i64 h, .slice A n c, .slice B m d] 25) = wP := ⟨_, rfl⟩
  have HX : Hid (∀ w1, Below wP.heap.size wP w1 → BPool 25 w1 W.heap.size h A n c B m d p) := Lib.hid (fun w1 b1 => ⟨(BoxP.made (h := h) hp hwP w1 b1).1, (BoxP.made (h := h) hp hwP w1 b1).2⟩)
  have HWP := Lib.hid hwP
  have HAW := Lib.hid (awake13_any wP)
  have HSM := Lib.hid (fun w1 (b1 : Below wP.heap.size wP w1) => small13_any p h hhi (HX.out w1 b1).po hf hw)
  have HBX := Lib.hid (fun w1 (b1 : Below wP.heap.size wP w1) => below_box hwP b1)
  clear hp hwP hf hw
  cases hsm : smallP p with
  | false =>
    rw [hsm] at HSM
    go_enter Try.func6, Try.ntmps6
    go_wp2_with (first
      | (go_at_call 7; (try rw [HWP.out]); (with_reducible refine HAW.out.mono ?_); rintro e w1 ⟨rfl, b1⟩; have B1 := Lib.hid b1; have a0 := (HX.out w1 b1).hs.cell 0; have a1 := (HX.out w1 b1).hs.cell 1; have a2 := (HX.out w1 b1).hs.cell 2; clear b1)
      | (go_at_call 8; (with_reducible refine (HSM.out _ B1.out).mono ?_); rintro e w2 ⟨rfl, b2⟩; have B2 := Lib.hid (below_step B1.out b2); have f0 := (HX.out w2 B2.out).hs.cell 0; have f1 := (HX.out w2 B2.out).hs.cell 1; have f2 := (HX.out w2 B2.out).hs.cell 2; clear b2))
    go_ret
    exact ⟨rfl, HBX.out _ B2.out⟩
  | true =>
    rw [hsm] at HSM
    have hsr := smallP_says hsm
    have hsr2 := hsr
    unfold smallR at hsr2
    have HCP := Lib.hid (fun w1 (b1 : Below wP.heap.size wP w1) => oCheck13_any p h 1000 hhi (HX.out w1 b1).po hsr)
    cases hck : checkP p 1000 with
    | false =>
      rw [hck] at HCP
      go_enter Try.func6, Try.ntmps6
      go_wp2_with (first
        | (go_at_call 7; (try rw [HWP.out]); (with_reducible refine HAW.out.mono ?_); rintro e w1 ⟨rfl, b1⟩; have B1 := Lib.hid b1; have a0 := (HX.out w1 b1).hs.cell 0; have a1 := (HX.out w1 b1).hs.cell 1; have a2 := (HX.out w1 b1).hs.cell 2; clear b1)
        | (go_at_call 8; (with_reducible refine (HSM.out _ B1.out).mono ?_); rintro e w2 ⟨rfl, b2⟩; have B2 := Lib.hid (below_step B1.out b2); have f0 := (HX.out w2 B2.out).hs.cell 0; have f1 := (HX.out w2 B2.out).hs.cell 1; have f2 := (HX.out w2 B2.out).hs.cell 2; clear b2)
        | (go_at_call 10; (with_reducible refine (HCP.out _ B2.out).mono ?_); rintro e w3 ⟨rfl, b3⟩; have B3 := Lib.hid (below_step B2.out b3); have g0 := (HX.out w3 B3.out).hs.cell 0; have g1 := (HX.out w3 B3.out).hs.cell 1; have g2 := (HX.out w3 B3.out).hs.cell 2; clear b3))
      go_ret
      exact ⟨rfl, HBX.out _ B3.out⟩
    | true =>
      rw [hck] at HCP
      by_cases hab : b < a
      · have habI : (b : Int) < (a : Int) := by omega
        go_enter Try.func6, Try.ntmps6
        go_wp2_with (first
          | (go_at_call 7; (try rw [HWP.out]); (with_reducible refine HAW.out.mono ?_); rintro e w1 ⟨rfl, b1⟩; have B1 := Lib.hid b1; have a0 := (HX.out w1 b1).hs.cell 0; have a1 := (HX.out w1 b1).hs.cell 1; have a2 := (HX.out w1 b1).hs.cell 2; clear b1)
          | (go_at_call 8; (with_reducible refine (HSM.out _ B1.out).mono ?_); rintro e w2 ⟨rfl, b2⟩; have B2 := Lib.hid (below_step B1.out b2); have f0 := (HX.out w2 B2.out).hs.cell 0; have f1 := (HX.out w2 B2.out).hs.cell 1; have f2 := (HX.out w2 B2.out).hs.cell 2; clear b2)
          | (go_at_call 10; (with_reducible refine (HCP.out _ B2.out).mono ?_); rintro e w3 ⟨rfl, b3⟩; have B3 := Lib.hid (below_step B2.out b3); have g0 := (HX.out w3 B3.out).hs.cell 0; have g1 := (HX.out w3 B3.out).hs.cell 1; have g2 := (HX.out w3 B3.out).hs.cell 2; clear b3))
        go_ret
        exact ⟨rfl, HBX.out _ B3.out⟩
      · have habI : ¬ (b : Int) < (a : Int) := by omega
        have hok := checkP_iff.1 hck
        have hsx := relP_small hsr a true
        have hsz := relP_small hsr b true
        have htwo := relP_two p (show a ≤ b by omega)
        have HR1 := Lib.hid (fun w1 (b1 : Below wP.heap.size wP w1) => oRel13_any p h a true hok.txn ha (HX.out w1 b1).po hsr)
        have HR2 := Lib.hid (fun w1 A n c B m d (h1 : PoolA w1 A n c B m d (relP p a true)) => (by have := oRel13_any (relP p a true) h b true (relP_ok hok a true).txn hb h1 hsx; rw [htwo] at this; exact this : Calls Try.prog 21 #[.agg #[.int .i64 h, .slice A n c, .slice B m d], .int .u64 (b : Int), .bool true] w1 fun e w' => ∃ A' n' c' B' m' d', e = .returned (.agg #[.int .i64 h, .slice A' n' c', .slice B' m' d']) ∧ PoolA w' A' n' c' B' m' d' (relP p b true) ∧ Below w1.heap.size w1 w'))
        have HR3 := Lib.hid (fun w1 (b1 : Below wP.heap.size wP w1) => oRel13_any p h b true hok.txn hb (HX.out w1 b1).po hsr)
        have HR4 : Hid (∀ w1, Below wP.heap.size wP w1 → Calls Try.prog 21 #[.agg #[.int .i64 h, .slice A n c, .slice B m d], .int .u64 0, .bool false] w1 fun e w' => ∃ A' n' c' B' m' d', e = .returned (.agg #[.int .i64 h, .slice A' n' c', .slice B' m' d']) ∧ PoolA w' A' n' c' B' m' d' (relP p 0 false) ∧ Below w1.heap.size w1 w') := Lib.hid (fun w1 (b1 : Below wP.heap.size wP w1) => oRel13_any p h 0 false hok.txn (by decide) (HX.out w1 b1).po hsr)
        have HL0 := Lib.hid (fun w1 (b1 : Below wP.heap.size wP w1) => oList13_any p h hhi (HX.out w1 b1).po hsr)
        have hlist : (listedP p).length ≤ 10000 := by
          unfold listedP
          rw [srtZ_len, List.length_append]
          exact hsr2.1
        have hcx := relP_count p a true
        have hca := relP_count p 0 false
        have hwn := relP_none p 0
        have hcw := relP_wait (p := p) (show a ≤ b by omega)
        rw [hwn] at hca
        have hcz := relP_count p b true
        have HPL := Lib.hid (fun w1 A n c B m d (h1 : PoolA w1 A n c B m d (relP p b true)) => plain13_any (relP p b true) h h1 (by have := h1.wait.len; have := hsz.2.1; omega))
        have HSA := Lib.hid (fun w1 A B A' B' n c m d c' d' (h1 : PoolA w1 A n c B m d (relP p b true)) (h2 : PoolA w1 A' n c' B' m d' (relP p b true)) => r13Same_z (relP p b true) h h1 h2 (by have := hsz.1; omega))
        have HWX : Hid (∀ w1, ∀ {A B : Option Addr} {n c m d : Nat}, PoolA w1 A n c B m d (relP p a true) → _) := Lib.hid (fun w1 {_ _ _ _ _ _} h1 => oWait13_any (relP p a true) h hhi h1 hsx)
        have HWZ : Hid (∀ w1, ∀ {A B : Option Addr} {n c m d : Nat}, PoolA w1 A n c B m d (relP p b true) → _) := Lib.hid (fun w1 {_ _ _ _ _ _} h1 => oWait13_any (relP p b true) h hhi h1 hsz)
        have HCZ0 : Hid (∀ w1, ∀ {A B : Option Addr} {n c m d : Nat}, PoolA w1 A n c B m d (relP p b true) → _) := Lib.hid (fun w1 {_ _ _ _ _ _} h1 => oCheck13_any (relP p b true) h 1000 hhi h1 hsz)
        have hckz : checkP (relP p b true) 1000 = true := checkP_iff.2 (relP_ok hok b true)
        rw [hckz] at HCZ0
        have HCZ := HCZ0
        have HLZ : Hid (∀ w1, ∀ {A B : Option Addr} {n c m d : Nat}, PoolA w1 A n c B m d (relP p b true) → _) := Lib.hid (fun w1 {_ _ _ _ _ _} h1 => oList13_any (relP p b true) h hhi h1 hsz)
        have HLP : Hid (∀ w1, ∀ {A B : Option Addr} {n c m d : Nat}, PoolA w1 A n c B m d p → _) := Lib.hid (fun w1 {_ _ _ _ _ _} h1 => oList13_any p h hhi h1 hsr)
        rw [relP_listed] at HLZ
        have HIN := Lib.hid (fun w1 A7 A8 n7 c7 c8 (r7 : RowZ w1 A7 n7 c7 (listedP p)) (r8 : RowZ w1 A8 n7 c8 (listedP p)) => r3Ints_z (listedP p) A7 A8 n7 c7 c8 w1 r7.len r7.reads r8.reads (by rw [r7.len]; omega))
        unfold RowZEnd at HL0 HLZ HLP
        obtain ⟨nl, hnl⟩ : ∃ nl, (listedP p).length = nl := ⟨_, rfl⟩
        obtain ⟨wx, hwx⟩ : ∃ wx, (catZ (relP p a true).wait).length = wx := ⟨_, rfl⟩
        obtain ⟨wz, hwz⟩ : ∃ wz, (catZ (relP p b true).wait).length = wz := ⟨_, rfl⟩
        rw [hwx] at HWX hcx hcw
        rw [hwz] at HWZ hcw hcz
        rw [hnl] at hcx hca hlist hcz
        have HNL := Lib.hid hnl
        have HLX : Hid ((relP p a true).free.length + wx = nl) := Lib.hid hcx
        have HLA : Hid ((relP p 0 false).free.length = nl) := Lib.hid (by simpa [catZ] using hca)
        have HMA : Hid ((relP p 0 false).wait.length = 0) := Lib.hid (by rw [hwn]; rfl)
        have hcwI : (wz : Int) ≤ (wx : Int) := by omega
        have hn200 : nl ≤ 10000 := hlist
        clear hcx hca hcz hwn hcw hok hsx hsz htwo hckz hsr hsr2 hlist hnl hwx hwz hab ha hb hck hsm
        go_enter Try.func6, Try.ntmps6
        go_wp2_with (first
          | (go_at_call 7; (try rw [HWP.out]); (with_reducible refine HAW.out.mono ?_); rintro e w1 ⟨rfl, b1⟩; have B1 := Lib.hid b1; have a0 := (HX.out w1 b1).hs.cell 0; have a1 := (HX.out w1 b1).hs.cell 1; have a2 := (HX.out w1 b1).hs.cell 2; clear b1)
          | (go_at_call 8; (with_reducible refine (HSM.out _ B1.out).mono ?_); rintro e w2 ⟨rfl, b2⟩; have B2 := Lib.hid (below_step B1.out b2); have f0 := (HX.out w2 B2.out).hs.cell 0; have f1 := (HX.out w2 B2.out).hs.cell 1; have f2 := (HX.out w2 B2.out).hs.cell 2; clear b2)
          | (go_at_call 10; (with_reducible refine (HCP.out _ B2.out).mono ?_); rintro e w3 ⟨rfl, b3⟩; have B3 := Lib.hid (below_step B2.out b3); have g0 := (HX.out w3 B3.out).hs.cell 0; have g1 := (HX.out w3 B3.out).hs.cell 1; have g2 := (HX.out w3 B3.out).hs.cell 2; clear b3)
          | (go_at_call 21; (with_reducible refine (HR1.out _ B3.out).mono ?_); rintro e w4 ⟨Ax, nx, cx, Bx, mx, dx, rfl, qw4, bw4⟩; obtain ⟨V4, hV4⟩ : ∃ V4, w4.alloc (.cells #[.int .i64 h, .slice Ax nx cx, .slice Bx mx dx] 25) = V4 := ⟨_, rfl⟩; have bbw4 : Below w4.heap.size w4 V4 := hV4 ▸ (Below.refl _ w4).alloc (Nat.le_refl _) _; have BV4 := Lib.hid (below_step (below_step B3.out bw4) bbw4); have KV4 : Hid (BPool 25 V4 w4.heap.size h Ax nx cx Bx mx dx (relP p a true)) := Lib.hid ⟨hV4 ▸ Has.made w4 _ _, qw4.below bbw4⟩; have x0 := KV4.out.hs.cell 0; have x1 := KV4.out.hs.cell 1; have x2 := KV4.out.hs.cell 2; have y0 := (HX.out _ BV4.out).hs.cell 0; have y1 := (HX.out _ BV4.out).hs.cell 1; have y2 := (HX.out _ BV4.out).hs.cell 2; rw [← hV4] at x0 x1 x2 y0 y1 y2; have EV4 := Lib.hid (below_step bw4 bbw4); have HV4 := Lib.hid hV4; clear qw4 bw4 bbw4 hV4)
          | (go_at_call 21; (try rw [HV4.out]); (with_reducible refine (HR2.out _ _ _ _ _ _ _ KV4.out.po).mono ?_); rintro e w5 ⟨Ay, ny, cy, By, my, dy, rfl, qw5, bw5⟩; obtain ⟨V5, hV5⟩ : ∃ V5, w5.alloc (.cells #[.int .i64 h, .slice Ay ny cy, .slice By my dy] 25) = V5 := ⟨_, rfl⟩; have bbw5 : Below w5.heap.size w5 V5 := hV5 ▸ (Below.refl _ w5).alloc (Nat.le_refl _) _; have BV5 := Lib.hid (below_step (below_step BV4.out bw5) bbw5); have KV5 : Hid (BPool 25 V5 w5.heap.size h Ay ny cy By my dy (relP p b true)) := Lib.hid ⟨hV5 ▸ Has.made w5 _ _, qw5.below bbw5⟩; have x0 := KV5.out.hs.cell 0; have x1 := KV5.out.hs.cell 1; have x2 := KV5.out.hs.cell 2; have y0 := (HX.out _ BV5.out).hs.cell 0; have y1 := (HX.out _ BV5.out).hs.cell 1; have y2 := (HX.out _ BV5.out).hs.cell 2; rw [← hV5] at x0 x1 x2 y0 y1 y2; have EV5 := Lib.hid (below_step bw5 bbw5); have HV5 := Lib.hid hV5; clear qw5 bw5 bbw5 hV5)
          | (go_at_call 21; (try rw [HV5.out]); (with_reducible refine (HR3.out _ BV5.out).mono ?_); rintro e w6 ⟨Az, nz, cz, Bz, mz, dz, rfl, qw6, bw6⟩; obtain ⟨V6, hV6⟩ : ∃ V6, w6.alloc (.cells #[.int .i64 h, .slice Az nz cz, .slice Bz mz dz] 25) = V6 := ⟨_, rfl⟩; have bbw6 : Below w6.heap.size w6 V6 := hV6 ▸ (Below.refl _ w6).alloc (Nat.le_refl _) _; have BV6 := Lib.hid (below_step (below_step BV5.out bw6) bbw6); have KV6 : Hid (BPool 25 V6 w6.heap.size h Az nz cz Bz mz dz (relP p b true)) := Lib.hid ⟨hV6 ▸ Has.made w6 _ _, qw6.below bbw6⟩; have x0 := KV6.out.hs.cell 0; have x1 := KV6.out.hs.cell 1; have x2 := KV6.out.hs.cell 2; have y0 := (HX.out _ BV6.out).hs.cell 0; have y1 := (HX.out _ BV6.out).hs.cell 1; have y2 := (HX.out _ BV6.out).hs.cell 2; rw [← hV6] at x0 x1 x2 y0 y1 y2; have EV6 := Lib.hid (below_step bw6 bbw6); have HV6 := Lib.hid hV6; clear qw6 bw6 bbw6 hV6)
          | (go_at_call 21; (try rw [HV6.out]); (with_reducible refine (HR4.out _ BV6.out).mono ?_); rintro e w7 ⟨Aa, na, ca, Ba, ma, da, rfl, qw7, bw7⟩; obtain ⟨V7, hV7⟩ : ∃ V7, w7.alloc (.cells #[.int .i64 h, .slice Aa na ca, .slice Ba ma da] 25) = V7 := ⟨_, rfl⟩; have bbw7 : Below w7.heap.size w7 V7 := hV7 ▸ (Below.refl _ w7).alloc (Nat.le_refl _) _; have BV7 := Lib.hid (below_step (below_step BV6.out bw7) bbw7); have KV7 : Hid (BPool 25 V7 w7.heap.size h Aa na ca Ba ma da (relP p 0 false)) := Lib.hid ⟨hV7 ▸ Has.made w7 _ _, qw7.below bbw7⟩; have x0 := KV7.out.hs.cell 0; have x1 := KV7.out.hs.cell 1; have x2 := KV7.out.hs.cell 2; have y0 := (HX.out _ BV7.out).hs.cell 0; have y1 := (HX.out _ BV7.out).hs.cell 1; have y2 := (HX.out _ BV7.out).hs.cell 2; rw [← hV7] at x0 x1 x2 y0 y1 y2; have EV7 := Lib.hid (below_step bw7 bbw7); have HV7 := Lib.hid hV7; clear qw7 bw7 bbw7 hV7)
          | (go_at_call 17; (try rw [HV7.out]); (with_reducible refine (HL0.out _ BV7.out).mono ?_); rintro e w8 ⟨A8, n8, c8, rfl, r8, b8⟩; have R8 := Lib.hid r8.len; have T8 := Lib.hid b8; clear r8 b8))
        obtain rfl : n8 = nl := by rw [R8.out, HNL.out]
        have E57 := below_step EV6.out EV7.out
        have E47 := below_step EV5.out E57
        have hS7 : (fun w' : World => (BPool 25 w' W.heap.size h A n c B m d p) ∧ (BPool 25 w' w4.heap.size h Ax nx cx Bx mx dx (relP p a true)) ∧ (BPool 25 w' w5.heap.size h Ay ny cy By my dy (relP p b true)) ∧ (BPool 25 w' w6.heap.size h Az nz cz Bz mz dz (relP p b true)) ∧ (BPool 25 w' w7.heap.size h Aa na ca Ba ma da (relP p 0 false)) ∧ Below W.heap.size W w') V7 := ⟨HX.out _ BV7.out, KV4.out.below E47, KV5.out.below E57, KV6.out.below EV7.out, KV7.out, HBX.out _ BV7.out⟩
        have h8 : (fun w' : World => (BPool 25 w' W.heap.size h A n c B m d p) ∧ (BPool 25 w' w4.heap.size h Ax nx cx Bx mx dx (relP p a true)) ∧ (BPool 25 w' w5.heap.size h Ay ny cy By my dy (relP p b true)) ∧ (BPool 25 w' w6.heap.size h Az nz cz Bz mz dz (relP p b true)) ∧ (BPool 25 w' w7.heap.size h Aa na ca Ba ma da (relP p 0 false)) ∧ Below W.heap.size W w') w8 := ⟨hS7.1.below T8.out, hS7.2.1.below T8.out, hS7.2.2.1.below T8.out, hS7.2.2.2.1.below T8.out, hS7.2.2.2.2.1.below T8.out, below_step hS7.2.2.2.2.2 T8.out⟩
        have hSd : (fun w' : World => (BPool 25 w' W.heap.size h A n c B m d p) ∧ (BPool 25 w' w4.heap.size h Ax nx cx Bx mx dx (relP p a true)) ∧ (BPool 25 w' w5.heap.size h Ay ny cy By my dy (relP p b true)) ∧ (BPool 25 w' w6.heap.size h Az nz cz Bz mz dz (relP p b true)) ∧ (BPool 25 w' w7.heap.size h Aa na ca Ba ma da (relP p 0 false)) ∧ Below W.heap.size W w') w8.drew := ⟨h8.1.below (Below.refl _ _).drew, h8.2.1.below (Below.refl _ _).drew, h8.2.2.1.below (Below.refl _ _).drew, h8.2.2.2.1.below (Below.refl _ _).drew, h8.2.2.2.2.1.below (Below.refl _ _).drew, below_step h8.2.2.2.2.2 (Below.refl _ _).drew⟩
        have hnx : nx + wx = n8 := by rw [KV4.out.po.free.len]; exact HLX.out
        have hw11 : IntKind.i64.wrap ((nx : Int) + (wx : Int)) = (n8 : Int) := by rw [IntKind.wrap_i64]; omega
        have hna : na = n8 := by rw [KV7.out.po.free.len]; exact HLA.out
        have hna2 : ((na : Int) == (n8 : Int)) = true := by simp; omega
        have hma : ma = 0 := by rw [KV7.out.po.wait.len]; exact HMA.out
        have hma2 : ((ma : Int) == 0) = true := by simp; omega
        have HNA := Lib.hid hna
        have HMA2 := Lib.hid hma
        have HNX := Lib.hid hnx
        clear E57 E47 hS7 h8 hna hma hnx x0 x1 x2 y0 y1 y2
        first | (rename_i K hK; refine wp_held (fun w' : World => (BPool 25 w' W.heap.size h A n c B m d p) ∧ (BPool 25 w' w4.heap.size h Ax nx cx Bx mx dx (relP p a true)) ∧ (BPool 25 w' w5.heap.size h Ay ny cy By my dy (relP p b true)) ∧ (BPool 25 w' w6.heap.size h Az nz cz Bz mz dz (relP p b true)) ∧ (BPool 25 w' w7.heap.size h Aa na ca Ba ma da (relP p 0 false)) ∧ Below W.heap.size W w') K hmx ?_ (fun _ _ h => h)) | (rename_i K hK hz; refine wp_held (fun w' : World => (BPool 25 w' W.heap.size h A n c B m d p) ∧ (BPool 25 w' w4.heap.size h Ax nx cx Bx mx dx (relP p a true)) ∧ (BPool 25 w' w5.heap.size h Ay ny cy By my dy (relP p b true)) ∧ (BPool 25 w' w6.heap.size h Az nz cz Bz mz dz (relP p b true)) ∧ (BPool 25 w' w7.heap.size h Aa na ca Ba ma da (relP p 0 false)) ∧ Below W.heap.size W w') K hmx ?_ (fun _ _ h => h))
        refine wpAnyH_take (i := 0) (v := .agg #[.int .i64 h, .slice Ay ny cy, .slice By my dy]) (lit rfl) (by kernel_rfl) (by kernel_rfl) (by kernel_rfl) (fun _ _ _ h => h) (Or.inl ⟨by rfl, ?_⟩) hSd ?_
        · rintro w6 ⟨sp, sx, sy, sz, sa, sb⟩
          have a0 := sy.hs.cell 0
          have a1 := sy.hs.cell 1
          have a2 := sy.hs.cell 2
          go_simp
        simp only [Act.put, List.setIfInBounds_toArray, List.set_cons_zero, List.set_cons_succ]
        refine wpAnyH_take (i := 2) (v := .agg #[.int .i64 h, .slice Az nz cz, .slice Bz mz dz]) (lit rfl) (by kernel_rfl) (by kernel_rfl) (by kernel_rfl) (fun _ _ _ h => h) (Or.inl ⟨by rfl, ?_⟩) hSd ?_
        · rintro w6 ⟨sp, sx, sy, sz, sa, sb⟩
          have a0 := sz.hs.cell 0
          have a1 := sz.hs.cell 1
          have a2 := sz.hs.cell 2
          go_simp
        simp only [Act.put, List.setIfInBounds_toArray, List.set_cons_zero, List.set_cons_succ]
        refine wpAnyH_ready (rs := [1]) (by kernel_rfl) (by simp) ?_
        refine AllReadyH.cons (lit rfl) (fun K5 hK5 => ?_) AllReadyH.nil
        refine step_open rfl ?_
        go_simp
        go_at_call 9
        (with_reducible refine (HPL.out _ _ _ _ _ _ _ hSd.2.2.1.po).mono ?_)
        rintro e20 w20 ⟨By2, dy2, rfl, py2, b20⟩
        have h20 : (fun w' : World => (BPool 25 w' W.heap.size h A n c B m d p) ∧ (BPool 25 w' w4.heap.size h Ax nx cx Bx mx dx (relP p a true)) ∧ (BPool 25 w' w5.heap.size h Ay ny cy By my dy (relP p b true)) ∧ (BPool 25 w' w6.heap.size h Az nz cz Bz mz dz (relP p b true)) ∧ (BPool 25 w' w7.heap.size h Aa na ca Ba ma da (relP p 0 false)) ∧ Below W.heap.size W w') w20 := ⟨hSd.1.below b20, hSd.2.1.below b20, hSd.2.2.1.below b20, hSd.2.2.2.1.below b20, hSd.2.2.2.2.1.below b20, below_step hSd.2.2.2.2.2 b20⟩
        refine hK5.out _ _ h20 (fun _ => ?_)
        clear hK5 K5
        refine wpAnyH_ready (rs := [3]) (by kernel_rfl) (by simp) ?_
        refine AllReadyH.cons (lit rfl) (fun K5 hK5 => ?_) AllReadyH.nil
        refine step_open rfl ?_
        go_simp
        go_at_call 9
        (with_reducible refine (HPL.out _ _ _ _ _ _ _ h20.2.2.2.1.po).mono ?_)
        rintro e21 w21 ⟨Bz2, dz2, rfl, pz2, b21⟩
        have h21 : (fun w' : World => (BPool 25 w' W.heap.size h A n c B m d p) ∧ (BPool 25 w' w4.heap.size h Ax nx cx Bx mx dx (relP p a true)) ∧ (BPool 25 w' w5.heap.size h Ay ny cy By my dy (relP p b true)) ∧ (BPool 25 w' w6.heap.size h Az nz cz Bz mz dz (relP p b true)) ∧ (BPool 25 w' w7.heap.size h Aa na ca Ba ma da (relP p 0 false)) ∧ Below W.heap.size W w') w21 := ⟨h20.1.below b21, h20.2.1.below b21, h20.2.2.1.below b21, h20.2.2.2.1.below b21, h20.2.2.2.2.1.below b21, below_step h20.2.2.2.2.2 b21⟩
        have py3 := py2.below b21
        obtain rfl : nz = ny := by rw [py3.free.len, pz2.free.len]
        obtain rfl : mz = my := by rw [py3.wait.len, pz2.wait.len]
        refine hK5.out _ _ h21 (fun _ => ?_)
        clear hK5 K5
        refine wpAnyH_ready (rs := [4]) (by kernel_rfl) (by simp) ?_
        refine AllReadyH.cons (lit rfl) (fun K5 hK5 => ?_) AllReadyH.nil
        refine step_open rfl ?_
        go_simp
        go_at_call 22
        (with_reducible refine (HSA.out _ _ _ _ _ _ _ _ _ _ _ py3 pz2).mono ?_)
        rintro e22 w22 ⟨rfl, b22⟩
        have h22 : (fun w' : World => (BPool 25 w' W.heap.size h A n c B m d p) ∧ (BPool 25 w' w4.heap.size h Ax nx cx Bx mx dx (relP p a true)) ∧ (BPool 25 w' w5.heap.size h Ay nz cy By mz dy (relP p b true)) ∧ (BPool 25 w' w6.heap.size h Az nz cz Bz mz dz (relP p b true)) ∧ (BPool 25 w' w7.heap.size h Aa na ca Ba ma da (relP p 0 false)) ∧ Below W.heap.size W w') w22 := ⟨h21.1.below b22, h21.2.1.below b22, h21.2.2.1.below b22, h21.2.2.2.1.below b22, h21.2.2.2.2.1.below b22, below_step h21.2.2.2.2.2 b22⟩
        refine hK5.out _ _ h22 (fun _ => ?_)
        clear hK5 K5
        refine wpAnyH_take (i := 5) (v := .bool true) (lit rfl) (by kernel_rfl) (by kernel_rfl) (by kernel_rfl) (fun _ _ _ h => h) (Or.inl ⟨by rfl, ?_⟩) h22 ?_
        · rintro w6 ⟨sp, sx, sy, sz, sa, sb⟩
          go_simp
        simp only [Act.put, List.setIfInBounds_toArray, List.set_cons_zero, List.set_cons_succ]
        refine wpAnyH_take (i := 6) (v := .pointer (some ⟨w4.heap.size, 1, none⟩)) (lit rfl) (by kernel_rfl) (by kernel_rfl) (by kernel_rfl) (fun _ _ _ h => h) (Or.inl ⟨by rfl, ?_⟩) h22 ?_
        · rintro w6 ⟨sp, sx, sy, sz, sa, sb⟩
          go_simp
        simp only [Act.put, List.setIfInBounds_toArray, List.set_cons_zero, List.set_cons_succ]
        refine wpAnyH_take (i := 7) (v := .slice Ax nx cx) (lit rfl) (by kernel_rfl) (by kernel_rfl) (by kernel_rfl) (fun _ _ _ h => h) (Or.inl ⟨by rfl, ?_⟩) h22 ?_
        · rintro w6 ⟨sp, sx, sy, sz, sa, sb⟩
          have a1 := sx.hs.cell 1
          go_simp
        simp only [Act.put, List.setIfInBounds_toArray, List.set_cons_zero, List.set_cons_succ]
        refine wpAnyH_take (i := 8) (v := .int .i64 (nx : Int)) (lit rfl) (by kernel_rfl) (by kernel_rfl) (by kernel_rfl) (fun _ _ _ h => h) (Or.inl ⟨by rfl, ?_⟩) h22 ?_
        · rintro w6 ⟨sp, sx, sy, sz, sa, sb⟩
          go_simp
        simp only [Act.put, List.setIfInBounds_toArray, List.set_cons_zero, List.set_cons_succ]
        refine wpAnyH_take (i := 9) (v := .agg #[.int .i64 h, .slice Ax nx cx, .slice Bx mx dx]) (lit rfl) (by kernel_rfl) (by kernel_rfl) (by kernel_rfl) (fun _ _ _ h => h) (Or.inl ⟨by rfl, ?_⟩) h22 ?_
        · rintro w6 ⟨sp, sx, sy, sz, sa, sb⟩
          have a0 := sx.hs.cell 0
          have a1 := sx.hs.cell 1
          have a2 := sx.hs.cell 2
          go_simp
        simp only [Act.put, List.setIfInBounds_toArray, List.set_cons_zero, List.set_cons_succ]
        refine wpAnyH_take (i := 12) (v := .int .i64 (n8 : Int)) (lit rfl) (by kernel_rfl) (by kernel_rfl) (by kernel_rfl) (fun _ _ _ h => h) (Or.inl ⟨by rfl, ?_⟩) h22 ?_
        · rintro w6 ⟨sp, sx, sy, sz, sa, sb⟩
          go_simp
        simp only [Act.put, List.setIfInBounds_toArray, List.set_cons_zero, List.set_cons_succ]
        refine wpAnyH_ready (rs := [10]) (by kernel_rfl) (by simp) ?_
        refine AllReadyH.cons (lit rfl) (fun K5 hK5 => ?_) AllReadyH.nil
        go_simp
        go_at_call 14
        (with_reducible refine (HWX.out _ h22.2.1.po).mono ?_)
        rintro e23 w23 ⟨rfl, b23⟩
        have h23 : (fun w' : World => (BPool 25 w' W.heap.size h A n c B m d p) ∧ (BPool 25 w' w4.heap.size h Ax nx cx Bx mx dx (relP p a true)) ∧ (BPool 25 w' w5.heap.size h Ay nz cy By mz dy (relP p b true)) ∧ (BPool 25 w' w6.heap.size h Az nz cz Bz mz dz (relP p b true)) ∧ (BPool 25 w' w7.heap.size h Aa na ca Ba ma da (relP p 0 false)) ∧ Below W.heap.size W w') w23 := ⟨h22.1.below b23, h22.2.1.below b23, h22.2.2.1.below b23, h22.2.2.2.1.below b23, h22.2.2.2.2.1.below b23, below_step h22.2.2.2.2.2 b23⟩
        refine hK5.out _ _ h23 (fun _ => ?_)
        clear hK5 K5
        refine wpAnyH_take (i := 11) (v := .int .i64 (n8 : Int)) (lit rfl) (by kernel_rfl) (by kernel_rfl) (by kernel_rfl) (fun _ _ _ h => h) (Or.inl ⟨by rfl, ?_⟩) h23 ?_
        · rintro w6 ⟨sp, sx, sy, sz, sa, sb⟩
          go_simp
        simp only [Act.put, List.setIfInBounds_toArray, List.set_cons_zero, List.set_cons_succ]
        refine wpAnyH_take (i := 13) (v := .bool true) (lit rfl) (by kernel_rfl) (by kernel_rfl) (by kernel_rfl) (fun _ _ _ h => h) (Or.inl ⟨by rfl, ?_⟩) h23 ?_
        · rintro w6 ⟨sp, sx, sy, sz, sa, sb⟩
          go_simp
        simp only [Act.put, List.setIfInBounds_toArray, List.set_cons_zero, List.set_cons_succ]
        refine wpAnyH_take (i := 14) (v := .bool true) (lit rfl) (by kernel_rfl) (by kernel_rfl) (by kernel_rfl) (fun _ _ _ h => h) (Or.inl ⟨by rfl, ?_⟩) h23 ?_
        · rintro w6 ⟨sp, sx, sy, sz, sa, sb⟩
          go_simp
        simp only [Act.put, List.setIfInBounds_toArray, List.set_cons_zero, List.set_cons_succ]
        refine wpAnyH_take (i := 15) (v := .bool true) (lit rfl) (by kernel_rfl) (by kernel_rfl) (by kernel_rfl) (fun _ _ _ h => h) (Or.inl ⟨by rfl, ?_⟩) h23 ?_
        · rintro w6 ⟨sp, sx, sy, sz, sa, sb⟩
          go_simp
        simp only [Act.put, List.setIfInBounds_toArray, List.set_cons_zero, List.set_cons_succ]
        refine wpAnyH_take (i := 16) (v := .agg #[.int .i64 h, .slice Ax nx cx, .slice Bx mx dx]) (lit rfl) (by kernel_rfl) (by kernel_rfl) (by kernel_rfl) (fun _ _ _ h => h) (Or.inl ⟨by rfl, ?_⟩) h23 ?_
        · rintro w6 ⟨sp, sx, sy, sz, sa, sb⟩
          have a0 := sx.hs.cell 0
          have a1 := sx.hs.cell 1
          have a2 := sx.hs.cell 2
          go_simp
        simp only [Act.put, List.setIfInBounds_toArray, List.set_cons_zero, List.set_cons_succ]
        refine wpAnyH_take (i := 18) (v := .agg #[.int .i64 h, .slice Az nz cz, .slice Bz mz dz]) (lit rfl) (by kernel_rfl) (by kernel_rfl) (by kernel_rfl) (fun _ _ _ h => h) (Or.inl ⟨by rfl, ?_⟩) h23 ?_
        · rintro w6 ⟨sp, sx, sy, sz, sa, sb⟩
          have a0 := sz.hs.cell 0
          have a1 := sz.hs.cell 1
          have a2 := sz.hs.cell 2
          go_simp
        simp only [Act.put, List.setIfInBounds_toArray, List.set_cons_zero, List.set_cons_succ]
        refine wpAnyH_ready (rs := [17]) (by kernel_rfl) (by simp) ?_
        refine AllReadyH.cons (lit rfl) (fun K5 hK5 => ?_) AllReadyH.nil
        go_simp
        go_at_call 14
        (with_reducible refine (HWX.out _ h23.2.1.po).mono ?_)
        rintro e24 w24 ⟨rfl, b24⟩
        have h24 : (fun w' : World => (BPool 25 w' W.heap.size h A n c B m d p) ∧ (BPool 25 w' w4.heap.size h Ax nx cx Bx mx dx (relP p a true)) ∧ (BPool 25 w' w5.heap.size h Ay nz cy By mz dy (relP p b true)) ∧ (BPool 25 w' w6.heap.size h Az nz cz Bz mz dz (relP p b true)) ∧ (BPool 25 w' w7.heap.size h Aa na ca Ba ma da (relP p 0 false)) ∧ Below W.heap.size W w') w24 := ⟨h23.1.below b24, h23.2.1.below b24, h23.2.2.1.below b24, h23.2.2.2.1.below b24, h23.2.2.2.2.1.below b24, below_step h23.2.2.2.2.2 b24⟩
        refine hK5.out _ _ h24 (fun _ => ?_)
        clear hK5 K5
        refine wpAnyH_ready (rs := [19]) (by kernel_rfl) (by simp) ?_
        refine AllReadyH.cons (lit rfl) (fun K5 hK5 => ?_) AllReadyH.nil
        go_simp
        go_at_call 14
        (with_reducible refine (HWZ.out _ h24.2.2.2.1.po).mono ?_)
        rintro e25 w25 ⟨rfl, b25⟩
        have h25 : (fun w' : World => (BPool 25 w' W.heap.size h A n c B m d p) ∧ (BPool 25 w' w4.heap.size h Ax nx cx Bx mx dx (relP p a true)) ∧ (BPool 25 w' w5.heap.size h Ay nz cy By mz dy (relP p b true)) ∧ (BPool 25 w' w6.heap.size h Az nz cz Bz mz dz (relP p b true)) ∧ (BPool 25 w' w7.heap.size h Aa na ca Ba ma da (relP p 0 false)) ∧ Below W.heap.size W w') w25 := ⟨h24.1.below b25, h24.2.1.below b25, h24.2.2.1.below b25, h24.2.2.2.1.below b25, h24.2.2.2.2.1.below b25, below_step h24.2.2.2.2.2 b25⟩
        refine hK5.out _ _ h25 (fun _ => ?_)
        clear hK5 K5
        refine wpAnyH_take (i := 20) (v := .bool true) (lit rfl) (by kernel_rfl) (by kernel_rfl) (by kernel_rfl) (fun _ _ _ h => h) (Or.inl ⟨by rfl, ?_⟩) h25 ?_
        · rintro w6 ⟨sp, sx, sy, sz, sa, sb⟩
          go_simp
        simp only [Act.put, List.setIfInBounds_toArray, List.set_cons_zero, List.set_cons_succ]
        refine wpAnyH_take (i := 21) (v := .bool true) (lit rfl) (by kernel_rfl) (by kernel_rfl) (by kernel_rfl) (fun _ _ _ h => h) (Or.inl ⟨by rfl, ?_⟩) h25 ?_
        · rintro w6 ⟨sp, sx, sy, sz, sa, sb⟩
          go_simp
        simp only [Act.put, List.setIfInBounds_toArray, List.set_cons_zero, List.set_cons_succ]
        refine wpAnyH_take (i := 22) (v := .bool true) (lit rfl) (by kernel_rfl) (by kernel_rfl) (by kernel_rfl) (fun _ _ _ h => h) (Or.inl ⟨by rfl, ?_⟩) h25 ?_
        · rintro w6 ⟨sp, sx, sy, sz, sa, sb⟩
          go_simp
        simp only [Act.put, List.setIfInBounds_toArray, List.set_cons_zero, List.set_cons_succ]
        refine wpAnyH_take (i := 23) (v := .pointer (some ⟨w7.heap.size, 1, none⟩)) (lit rfl) (by kernel_rfl) (by kernel_rfl) (by kernel_rfl) (fun _ _ _ h => h) (Or.inl ⟨by rfl, ?_⟩) h25 ?_
        · rintro w6 ⟨sp, sx, sy, sz, sa, sb⟩
          go_simp
        simp only [Act.put, List.setIfInBounds_toArray, List.set_cons_zero, List.set_cons_succ]
        refine wpAnyH_take (i := 24) (v := .slice Aa na ca) (lit rfl) (by kernel_rfl) (by kernel_rfl) (by kernel_rfl) (fun _ _ _ h => h) (Or.inl ⟨by rfl, ?_⟩) h25 ?_
        · rintro w6 ⟨sp, sx, sy, sz, sa, sb⟩
          have a1 := sa.hs.cell 1
          go_simp
        simp only [Act.put, List.setIfInBounds_toArray, List.set_cons_zero, List.set_cons_succ]
        refine wpAnyH_take (i := 25) (v := .int .i64 (na : Int)) (lit rfl) (by kernel_rfl) (by kernel_rfl) (by kernel_rfl) (fun _ _ _ h => h) (Or.inl ⟨by rfl, ?_⟩) h25 ?_
        · rintro w6 ⟨sp, sx, sy, sz, sa, sb⟩
          go_simp
        simp only [Act.put, List.setIfInBounds_toArray, List.set_cons_zero, List.set_cons_succ]
        refine wpAnyH_take (i := 26) (v := .int .i64 (n8 : Int)) (lit rfl) (by kernel_rfl) (by kernel_rfl) (by kernel_rfl) (fun _ _ _ h => h) (Or.inl ⟨by rfl, ?_⟩) h25 ?_
        · rintro w6 ⟨sp, sx, sy, sz, sa, sb⟩
          go_simp
        simp only [Act.put, List.setIfInBounds_toArray, List.set_cons_zero, List.set_cons_succ]
        refine wpAnyH_take (i := 27) (v := .bool true) (lit rfl) (by kernel_rfl) (by kernel_rfl) (by kernel_rfl) (fun _ _ _ h => h) (Or.inl ⟨by rfl, ?_⟩) h25 ?_
        · rintro w6 ⟨sp, sx, sy, sz, sa, sb⟩
          go_simp
        simp only [Act.put, List.setIfInBounds_toArray, List.set_cons_zero, List.set_cons_succ]
        refine wpAnyH_take (i := 28) (v := .bool true) (lit rfl) (by kernel_rfl) (by kernel_rfl) (by kernel_rfl) (fun _ _ _ h => h) (Or.inl ⟨by rfl, ?_⟩) h25 ?_
        · rintro w6 ⟨sp, sx, sy, sz, sa, sb⟩
          go_simp
        simp only [Act.put, List.setIfInBounds_toArray, List.set_cons_zero, List.set_cons_succ]
        refine wpAnyH_take (i := 29) (v := .bool true) (lit rfl) (by kernel_rfl) (by kernel_rfl) (by kernel_rfl) (fun _ _ _ h => h) (Or.inl ⟨by rfl, ?_⟩) h25 ?_
        · rintro w6 ⟨sp, sx, sy, sz, sa, sb⟩
          go_simp
        simp only [Act.put, List.setIfInBounds_toArray, List.set_cons_zero, List.set_cons_succ]
        refine wpAnyH_take (i := 30) (v := .pointer (some ⟨w7.heap.size, 2, none⟩)) (lit rfl) (by kernel_rfl) (by kernel_rfl) (by kernel_rfl) (fun _ _ _ h => h) (Or.inl ⟨by rfl, ?_⟩) h25 ?_
        · rintro w6 ⟨sp, sx, sy, sz, sa, sb⟩
          go_simp
        simp only [Act.put, List.setIfInBounds_toArray, List.set_cons_zero, List.set_cons_succ]
        refine wpAnyH_take (i := 31) (v := .slice Ba ma da) (lit rfl) (by kernel_rfl) (by kernel_rfl) (by kernel_rfl) (fun _ _ _ h => h) (Or.inl ⟨by rfl, ?_⟩) h25 ?_
        · rintro w6 ⟨sp, sx, sy, sz, sa, sb⟩
          have a2 := sa.hs.cell 2
          go_simp
        simp only [Act.put, List.setIfInBounds_toArray, List.set_cons_zero, List.set_cons_succ]
        refine wpAnyH_take (i := 32) (v := .int .i64 (ma : Int)) (lit rfl) (by kernel_rfl) (by kernel_rfl) (by kernel_rfl) (fun _ _ _ h => h) (Or.inl ⟨by rfl, ?_⟩) h25 ?_
        · rintro w6 ⟨sp, sx, sy, sz, sa, sb⟩
          go_simp
        simp only [Act.put, List.setIfInBounds_toArray, List.set_cons_zero, List.set_cons_succ]
        refine wpAnyH_take (i := 33) (v := .bool true) (lit rfl) (by kernel_rfl) (by kernel_rfl) (by kernel_rfl) (fun _ _ _ h => h) (Or.inl ⟨by rfl, ?_⟩) h25 ?_
        · rintro w6 ⟨sp, sx, sy, sz, sa, sb⟩
          go_simp
        simp only [Act.put, List.setIfInBounds_toArray, List.set_cons_zero, List.set_cons_succ]
        refine wpAnyH_take (i := 34) (v := .bool true) (lit rfl) (by kernel_rfl) (by kernel_rfl) (by kernel_rfl) (fun _ _ _ h => h) (Or.inl ⟨by rfl, ?_⟩) h25 ?_
        · rintro w6 ⟨sp, sx, sy, sz, sa, sb⟩
          go_simp
        simp only [Act.put, List.setIfInBounds_toArray, List.set_cons_zero, List.set_cons_succ]
        refine wpAnyH_take (i := 35) (v := .bool true) (lit rfl) (by kernel_rfl) (by kernel_rfl) (by kernel_rfl) (fun _ _ _ h => h) (Or.inl ⟨by rfl, ?_⟩) h25 ?_
        · rintro w6 ⟨sp, sx, sy, sz, sa, sb⟩
          go_simp
        simp only [Act.put, List.setIfInBounds_toArray, List.set_cons_zero, List.set_cons_succ]
        refine wpAnyH_take (i := 36) (v := .agg #[.int .i64 h, .slice Az nz cz, .slice Bz mz dz]) (lit rfl) (by kernel_rfl) (by kernel_rfl) (by kernel_rfl) (fun _ _ _ h => h) (Or.inl ⟨by rfl, ?_⟩) h25 ?_
        · rintro w6 ⟨sp, sx, sy, sz, sa, sb⟩
          have a0 := sz.hs.cell 0
          have a1 := sz.hs.cell 1
          have a2 := sz.hs.cell 2
          go_simp
        simp only [Act.put, List.setIfInBounds_toArray, List.set_cons_zero, List.set_cons_succ]
        refine wpAnyH_ready (rs := [37]) (by kernel_rfl) (by simp) ?_
        refine AllReadyH.cons (lit rfl) (fun K5 hK5 => ?_) AllReadyH.nil
        go_simp
        go_at_call 10
        (with_reducible refine (HCZ.out _ h25.2.2.2.1.po).mono ?_)
        rintro e26 w26 ⟨rfl, b26⟩
        have h26 : (fun w' : World => (BPool 25 w' W.heap.size h A n c B m d p) ∧ (BPool 25 w' w4.heap.size h Ax nx cx Bx mx dx (relP p a true)) ∧ (BPool 25 w' w5.heap.size h Ay nz cy By mz dy (relP p b true)) ∧ (BPool 25 w' w6.heap.size h Az nz cz Bz mz dz (relP p b true)) ∧ (BPool 25 w' w7.heap.size h Aa na ca Ba ma da (relP p 0 false)) ∧ Below W.heap.size W w') w26 := ⟨h25.1.below b26, h25.2.1.below b26, h25.2.2.1.below b26, h25.2.2.2.1.below b26, h25.2.2.2.2.1.below b26, below_step h25.2.2.2.2.2 b26⟩
        refine hK5.out _ _ h26 (fun _ => ?_)
        clear hK5 K5
        refine wpAnyH_take (i := 38) (v := .bool true) (lit rfl) (by kernel_rfl) (by kernel_rfl) (by kernel_rfl) (fun _ _ _ h => h) (Or.inl ⟨by rfl, ?_⟩) h26 ?_
        · rintro w6 ⟨sp, sx, sy, sz, sa, sb⟩
          go_simp
        simp only [Act.put, List.setIfInBounds_toArray, List.set_cons_zero, List.set_cons_succ]
        refine wpAnyH_take (i := 39) (v := .bool true) (lit rfl) (by kernel_rfl) (by kernel_rfl) (by kernel_rfl) (fun _ _ _ h => h) (Or.inl ⟨by rfl, ?_⟩) h26 ?_
        · rintro w6 ⟨sp, sx, sy, sz, sa, sb⟩
          go_simp
        simp only [Act.put, List.setIfInBounds_toArray, List.set_cons_zero, List.set_cons_succ]
        refine wpAnyH_take (i := 40) (v := .agg #[.int .i64 h, .slice Az nz cz, .slice Bz mz dz]) (lit rfl) (by kernel_rfl) (by kernel_rfl) (by kernel_rfl) (fun _ _ _ h => h) (Or.inl ⟨by rfl, ?_⟩) h26 ?_
        · rintro w6 ⟨sp, sx, sy, sz, sa, sb⟩
          have a0 := sz.hs.cell 0
          have a1 := sz.hs.cell 1
          have a2 := sz.hs.cell 2
          go_simp
        simp only [Act.put, List.setIfInBounds_toArray, List.set_cons_zero, List.set_cons_succ]
        refine wpAnyH_take (i := 42) (v := .agg #[.int .i64 h, .slice A n c, .slice B m d]) (lit rfl) (by kernel_rfl) (by kernel_rfl) (by kernel_rfl) (fun _ _ _ h => h) (Or.inl ⟨by rfl, ?_⟩) h26 ?_
        · rintro w6 ⟨sp, sx, sy, sz, sa, sb⟩
          have a0 := sp.hs.cell 0
          have a1 := sp.hs.cell 1
          have a2 := sp.hs.cell 2
          go_simp
        simp only [Act.put, List.setIfInBounds_toArray, List.set_cons_zero, List.set_cons_succ]
        refine wpAnyH_ready (rs := [41]) (by kernel_rfl) (by simp) ?_
        refine AllReadyH.cons (lit rfl) (fun K5 hK5 => ?_) AllReadyH.nil
        go_simp
        go_at_call 17
        (with_reducible refine (HLZ.out _ h26.2.2.2.1.po).mono ?_)
        rintro e27 w27 ⟨A7, n7, c7, rfl, r7, b27⟩
        have h27 : (fun w' : World => (BPool 25 w' W.heap.size h A n c B m d p) ∧ (BPool 25 w' w4.heap.size h Ax nx cx Bx mx dx (relP p a true)) ∧ (BPool 25 w' w5.heap.size h Ay nz cy By mz dy (relP p b true)) ∧ (BPool 25 w' w6.heap.size h Az nz cz Bz mz dz (relP p b true)) ∧ (BPool 25 w' w7.heap.size h Aa na ca Ba ma da (relP p 0 false)) ∧ Below W.heap.size W w') w27 := ⟨h26.1.below b27, h26.2.1.below b27, h26.2.2.1.below b27, h26.2.2.2.1.below b27, h26.2.2.2.2.1.below b27, below_step h26.2.2.2.2.2 b27⟩
        refine hK5.out _ _ h27 (fun _ => ?_)
        clear hK5 K5
        refine wpAnyH_ready (rs := [43]) (by kernel_rfl) (by simp) ?_
        refine AllReadyH.cons (lit rfl) (fun K5 hK5 => ?_) AllReadyH.nil
        go_simp
        go_at_call 17
        (with_reducible refine (HLP.out _ h27.1.po).mono ?_)
        rintro e28 w28 ⟨A8, n8, c8, rfl, r8, b28⟩
        have h28 : (fun w' : World => (BPool 25 w' W.heap.size h A n c B m d p) ∧ (BPool 25 w' w4.heap.size h Ax nx cx Bx mx dx (relP p a true)) ∧ (BPool 25 w' w5.heap.size h Ay nz cy By mz dy (relP p b true)) ∧ (BPool 25 w' w6.heap.size h Az nz cz Bz mz dz (relP p b true)) ∧ (BPool 25 w' w7.heap.size h Aa na ca Ba ma da (relP p 0 false)) ∧ Below W.heap.size W w') w28 := ⟨h27.1.below b28, h27.2.1.below b28, h27.2.2.1.below b28, h27.2.2.2.1.below b28, h27.2.2.2.2.1.below b28, below_step h27.2.2.2.2.2 b28⟩
        have r7b := r7.below b28
        obtain rfl : n8 = n7 := by rw [r8.len, r7.len]
        refine hK5.out _ _ h28 (fun _ => ?_)
        clear hK5 K5
        refine wpAnyH_ready (rs := [44]) (by kernel_rfl) (by simp) ?_
        refine AllReadyH.cons (lit rfl) (fun K5 hK5 => ?_) AllReadyH.nil
        go_simp
        go_at_call 16
        (with_reducible refine (HIN.out _ _ _ _ _ _ r7b r8).mono ?_)
        rintro e29 w29 ⟨rfl, b29⟩
        have h29 : (fun w' : World => (BPool 25 w' W.heap.size h A n c B m d p) ∧ (BPool 25 w' w4.heap.size h Ax nx cx Bx mx dx (relP p a true)) ∧ (BPool 25 w' w5.heap.size h Ay nz cy By mz dy (relP p b true)) ∧ (BPool 25 w' w6.heap.size h Az nz cz Bz mz dz (relP p b true)) ∧ (BPool 25 w' w7.heap.size h Aa na ca Ba ma da (relP p 0 false)) ∧ Below W.heap.size W w') w29 := ⟨h28.1.below b29, h28.2.1.below b29, h28.2.2.1.below b29, h28.2.2.2.1.below b29, h28.2.2.2.2.1.below b29, below_step h28.2.2.2.2.2 b29⟩
        refine hK5.out _ _ h29 (fun _ => ?_)
        clear hK5 K5
        refine wpAnyH_take (i := 45) (v := .bool true) (lit rfl) (by kernel_rfl) (by kernel_rfl) (by kernel_rfl) (fun _ _ _ h => h) (Or.inl ⟨by rfl, ?_⟩) h29 ?_
        · rintro w6 ⟨sp, sx, sy, sz, sa, sb⟩
          go_simp
        simp only [Act.put, List.setIfInBounds_toArray, List.set_cons_zero, List.set_cons_succ]
        refine wpAnyH_take (i := 46) (v := .bool true) (lit rfl) (by kernel_rfl) (by kernel_rfl) (by kernel_rfl) (fun _ _ _ h => h) (Or.inl ⟨by rfl, ?_⟩) h29 ?_
        · rintro w6 ⟨sp, sx, sy, sz, sa, sb⟩
          go_simp
        simp only [Act.put, List.setIfInBounds_toArray, List.set_cons_zero, List.set_cons_succ]
        refine wpAnyH_done (by kernel_rfl) ?_ _
        refine hK _ _ ?_
        go_wp2
        go_ret
        exact ⟨rfl, h29.2.2.2.2.2⟩
end Go.Proofs.Ytoelojlabmconaa
