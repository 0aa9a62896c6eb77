import Derived.Test.YtoelojlabmconaaJPpd
import Derived.Deep.Cut
/- Of a claim's texts, joined: Ppe. No statement but in the last. -/
namespace Go.Proofs.Ytoelojlabmconaa
open Go.RowKit
set_option linter.unusedVariables false

section
variable {w w' : World} {lo G : Nat} {A B : Option Addr} {n c m d : Nat} {p : Pd} {ss : List Sl13} {cs : Array Value}
theorem RowF.grown {s : Sl13} {l : List Int} (h : RowF w lo s l) (hP : Has w G 25 cs) (hg : w.grownBy w' (some G)) : RowF w' lo s l := ⟨h.row.grown hP (by decide) hg, h.len, h.nil, h.room, h.most⟩
theorem PoolF.grown (h : PoolF w lo A n c B m d p ss) (hP : Has w G 25 cs) (hg : w.grownBy w' (some G)) : PoolF w' lo A n c B m d p ss := by
  refine ⟨h.free.grown hP hg, h.len, h.same, h.own.kept hg ?_, fun i hi => (h.each i hi).grown hP hg, h.big⟩
  rcases h.own.2 with ⟨e, _⟩ | ⟨g, cap, cur, e, _, hc, _⟩
  · exact Or.inl (by rw [e]; rfl)
  · refine Or.inr (fun e2 => ?_)
    rw [e] at e2
    obtain rfl : g = G := by injection e2
    exact Has.apart (show Has w g 56 cur from hc) hP (by decide) rfl
theorem PoolF.low {lo' : Nat} (h : PoolF w lo A n c B m d p ss) (hl : lo' ≤ lo) : PoolF w lo' A n c B m d p ss := ⟨h.free.low hl, h.len, h.same, h.own.mono hl, fun i hi => (h.each i hi).low hl, h.big⟩
theorem PoolF.put {A' : Option Addr} {n' c' : Nat} {h' : Int} {l : List Int} (h : PoolF w lo A n c B m d p ss) (r : RowF w lo (A', n', c') l) : PoolF w lo A' n' c' B m d ⟨h', l, p.wait⟩ ss := ⟨r, h.len, h.same, h.own, h.each, h.big⟩
theorem own_cut13 {b k : Nat} {xs : List Value} (h : w.ownsRow b 3 1 (.slice A n c) n xs) (hk : k ≤ n) : w.ownsRow b 3 1 (.slice A k c) k (xs.take k) := by
  refine ⟨by rw [List.length_take, h.1]; omega, ?_⟩
  rcases h.2 with ⟨e, hn⟩ | ⟨g, cap, cur, e, hb, hc, h1, h2, h3, h4⟩
  · injection e with e1 e2 e3
    subst e1 e3
    obtain rfl : k = 0 := by omega
    exact Or.inl ⟨rfl, rfl⟩
  · injection e with e1 e2 e3
    subst e1 e3
    refine Or.inr ⟨g, c, cur, rfl, hb, hc, by omega, h2, h3, ?_⟩
    rw [← h4, List.take_take, Nat.min_eq_left (by omega), Nat.mul_one]
theorem RowZ.cut {l : List Int} (h : RowZ w A n c l) {k : Nat} (hk : k ≤ n) : RowZ w (if c = k then A else A.map (·.add k)) (n - k) (c - k) (l.drop k) := by
  refine ⟨by rw [List.length_drop, h.len], h.reads.dropZ h.len h.room hk, fun e => ?_, by have := h.room; omega, by have := h.most; omega⟩
  rcases A with _ | a
  · have := h.nil rfl
    omega
  · split at e <;> cases e
theorem grown_of_below (b : Below w.heap.size w w') {k : Option Nat} : w.grownBy w' k := ⟨b.os, b.tape, b.output, b.size, fun i hi _ => b.block i hi⟩
theorem below_of_grown {b : Nat} (hg : w.grownBy w' (some G)) (hb : b ≤ w.heap.size) (hG : b ≤ G) : Below b w w' := ⟨hg.os, hg.tape, hg.output, hg.size, fun i hi => hg.block i (by omega) (fun e => by injection e with e; omega)⟩
theorem grown_own_pe {w0 : World} {k : Option Nat} {b sz m : Nat} {e : TypeId} {v : Value} {xs : List Value} (h : w0.grownBy w k) (ho : w.ownsRow b e sz v m xs) (hb : w0.heap.size ≤ b) (hg : w.grownBy w' v.ownBlock) : w0.grownBy w' k :=
  ⟨hg.os.trans h.os, hg.tape.trans h.tape, hg.output.trans h.output, Nat.le_trans h.size hg.size, fun i hi hk => (hg.block i (Nat.lt_of_lt_of_le hi h.size) (fun e => by have := (ho.lt i e.symm).1; omega)).trans (h.block i hi hk)⟩
theorem grown_alloc_pe {w0 : World} {k : Option Nat} (h : w0.grownBy w k) (o : Obj) : w0.grownBy (w.alloc o) k := h.trans (World.grownBy_alloc w o k)
def put3 (w : World) (g : Nat) (a b c : Value) : World := ((w.setCell ⟨g, 0, none⟩ a).setCell ⟨g, 1, none⟩ b).setCell ⟨g, 2, none⟩ c
theorem PoolF.put3 (h : PoolF w lo A n c B m d p ss) (hP : Has w G 25 cs) (x y z : Value) : PoolF (put3 w G x y z) lo A n c B m d p ss := ((h.store hP 0 x).store (hP.store 0 x) 1 y).store ((hP.store 0 x).store 1 y) 2 z
theorem own_put3 {b sz k : Nat} {e : TypeId} {v : Value} {xs : List Value} (h : w.ownsRow b e sz v k xs) (hP : Has w G 25 cs) (hne : 25 ≠ e) (x y z : Value) : (Go.Proofs.Ytoelojlabmconaa.put3 w G x y z).ownsRow b e sz v k xs := own_cell13 (own_cell13 (own_cell13 h hP hne 0 x) (hP.store 0 x) hne 1 y) ((hP.store 0 x).store 1 y) hne 2 z
theorem below_put3 {b : Nat} {w0 : World} (h : Below b w0 w) (hG : b ≤ G) (x y z : Value) : Below b w0 (Go.Proofs.Ytoelojlabmconaa.put3 w G x y z) := ((h.setCell (p := ⟨G, 0, none⟩) hG x).setCell (p := ⟨G, 1, none⟩) hG y).setCell (p := ⟨G, 2, none⟩) hG z
end
def TakeEnd (p : Pd) (h q many : Int) (w : World) (e : Ending) (w' : World) : Prop := ∃ h' A' n' c' B' m' d' ss L nl cl, e = .returned (.tuple #[.agg #[.int .i64 h', .slice A' n' c', .slice B' m' d'], .slice L nl cl, .bool (decide (0 ≤ many ∧ many ≤ roomP p q))]) ∧ Below w.heap.size w w' ∧
      (0 ≤ many ∧ many ≤ roomP p q → (takeP p many.toNat).hi = h' ∧ PoolF w' w.heap.size A' n' c' B' m' d' (takeP p many.toNat) ss ∧ w'.ownsRow w.heap.size 3 1 (.slice L nl cl) nl ((takenP p many.toNat).map (Value.int .i64))) ∧
      (¬ (0 ≤ many ∧ many ≤ roomP p q) → h' = h ∧ PoolF w' w.heap.size A' n' c' B' m' d' p ss ∧ nl = 0)
section
variable {w : World} {A B : Option Addr} {n c m d : Nat}
set_option maxRecDepth 100000 in
set_option maxHeartbeats 8000000 in
theorem oTake13_own (p : Pd) (h q many : Int) (hhi : p.hi = h) (hp : PoolA w A n c B m d p) (hs : smallR p) (hq : -1099511627776 ≤ q ∧ q ≤ 1099511627776) (hm : -9223372036854775808 ≤ many ∧ many ≤ 9223372036854775807) :
    Calls Try.prog 19 #[.agg #[.int .i64 h, .slice A n c, .slice B m d], .int .i64 q, .int .i64 many] w (TakeEnd p h q many w) := by
  obtain ⟨W1, hW1⟩ : ∃ W1, (w.alloc (.cells #[.int .i64 h, .slice A n c, .slice B m d] 25)).alloc (.cells #[.int .i64 0, .slice none 0 0, .slice none 0 0] 25) = W1 := ⟨_, rfl⟩
  have bW1 : Below w.heap.size w W1 := hW1 ▸ ((Below.refl _ w).alloc (Nat.le_refl _) _).alloc (by simp) _
  have HX : Hid (Has W1 w.heap.size 25 #[.int .i64 h, .slice A n c, .slice B m d]) := Lib.hid (hW1 ▸ (Has.made w _ _).alloc _)
  have HZ : Hid (Has W1 (w.heap.size + 1) 25 #[.int .i64 0, .slice none 0 0, .slice none 0 0]) := Lib.hid (by
    have := Has.made (w.alloc (.cells #[.int .i64 h, .slice A n c, .slice B m d] 25)) 25 #[.int .i64 0, .slice none 0 0, .slice none 0 0]
    rw [hW1] at this
    simpa using this)
  have HSZ : Hid (w.heap.size ≤ W1.heap.size ∧ W1.heap.size = w.heap.size + 1 + 1) := Lib.hid ⟨bW1.size, by rw [← hW1]; simp⟩
  have HPA := Lib.hid (hp.below bW1)
  have HBW := Lib.hid bW1
  have HNF := Lib.hid hp.free.len
  have hn : n ≤ 10000 := by have h1 := hs.1; have := hp.free.len; omega
  have HSM := Lib.hid hs
  have HOW := Lib.hid (oOwn13_any p h (hp.below bW1) hs)
  have HRO : Hid (∀ w1, Below W1.heap.size W1 w1 → Calls Try.prog 12 #[.agg #[.int .i64 h, .slice A n c, .slice B m d], .int .i64 q] w1 fun e w' => e = .returned (.int .i64 (roomP p q)) ∧ Below w1.heap.size w1 w') := Lib.hid (fun w1 b1 => oRoom13_any p h q hhi (HPA.out.below b1) hs hq)
  have HHI := Lib.hid hhi
  have HQ := Lib.hid hq
  obtain ⟨ro, hro⟩ : ∃ r, roomP p q = r := ⟨_, rfl⟩
  have HR : Hid (ro = (n : Int) + if h < q then q - h else 0) := Lib.hid (by rw [← hro]; unfold roomP; rw [← HNF.out, hhi])
  unfold TakeEnd
  rw [hro] at HRO ⊢
  have z0 := HX.out.cell 0
  have z1 := HX.out.cell 1
  have z2 := HX.out.cell 2
  have HW1 := Lib.hid hW1
  clear hW1 bW1 hp hs hhi hro
  by_cases hyes : 0 ≤ many ∧ many ≤ ro
  · rw [decide_eq_true hyes]
    have HYES := Lib.hid hyes
    obtain ⟨N, rfl⟩ : ∃ N : Nat, many = (N : Int) := ⟨many.toNat, by omega⟩
    have hN0 : ¬ (N : Int) < 0 := by omega
    have hN1 : ¬ ro < (N : Int) := by omega
    have hN2 : (N : Int) ≤ ro := by omega
    have hN3 : N ≤ 2199023365552 := by
      have h1 := HR.out
      have h2 := HSM.out.2.2
      have h3 := HHI.out
      have h4 := HQ.out
      split at h1 <;> omega
    rw [Int.toNat_natCast]
    obtain ⟨sr, hsr⟩ : ∃ s, srtZ p.free = s := ⟨_, rfl⟩
    have HSR := Lib.hid hsr
    have HSL : Hid (sr.length = n) := Lib.hid (by rw [← hsr, srtZ_len, HNF.out])
    have HSO : Hid (∀ w1, Below W1.heap.size W1 w1 → Calls Try.prog 25 #[.slice (some ⟨w1.heap.size, 0, none⟩) 1 1] (w1.alloc (.cells #[.slice A n c] 22)) (OwnZ sr (w1.alloc (.cells #[.slice A n c] 22)))) := Lib.hid (fun w1 b1 => by
      have hb := (Below.refl w1.heap.size w1).alloc (Nat.le_refl _) (.cells #[.slice A n c] 22)
      have hR : RowsZ (w1.alloc (.cells #[.slice A n c] 22)) (some ⟨w1.heap.size, 0, none⟩) 1 1 [((A, n, c), p.free)] := ⟨rfl, fun _ => ⟨w1.heap.size, 0, rfl, fun j u hj => by
          rw [(Has.made w1 22 #[.slice A n c]).cell, Nat.zero_add]
          simpa [hdrZ] using hj⟩, fun x hx => by
          obtain rfl : x = ((A, n, c), p.free) := by simpa using hx
          exact (HPA.out.free.below b1).below hb⟩
      have := sorted13_any (some ⟨w1.heap.size, 0, none⟩) 1 1 [((A, n, c), p.free)] _ hR (by simp [flatZ]; have := HSM.out.1; omega) (by omega)
      rw [show flatZ [((A, n, c), p.free)] = p.free by simp [flatZ], HSR.out] at this
      exact this)
    clear hyes hsr
    go_enter Try.func19, Try.ntmps19
    go_upto_region 2 with (go_at_call 27; (try rw [HW1.out]); (with_reducible refine HOW.out.mono ?_); rintro e w1 ⟨A1, c1, Bb, d1, ss, rfl, hf, hb⟩; have PF := Lib.hid hf; have B1 := Lib.hid hb; clear hf hb)
    obtain ⟨V1, hV1⟩ : ∃ x, w1.alloc (.cells #[.int .i64 h, .slice A1 n c1, .slice Bb m d1] 25) = x := ⟨_, rfl⟩
    rw [hV1]
    have bV1 : Below w1.heap.size w1 V1 := hV1 ▸ (Below.refl _ _).alloc (Nat.le_refl _) _
    have BV1 : Hid (Below W1.heap.size W1 V1) := Lib.hid (B1.out.trans (bV1.mono B1.out.size))
    have HG : Hid (Has V1 w1.heap.size 25 #[.int .i64 h, .slice A1 n c1, .slice Bb m d1]) := Lib.hid (hV1 ▸ Has.made _ _ _)
    have PV : Hid (PoolF V1 w.heap.size A1 n c1 Bb m d1 p ss) := Lib.hid ((PF.out.below bV1).low HSZ.out.1)
    have HWV : Hid (w.heap.size ≤ w1.heap.size ∧ w.heap.size + 1 + 1 ≤ w1.heap.size) := Lib.hid (by have := HSZ.out; have := B1.out.size; omega)
    obtain ⟨G, hG⟩ : ∃ G, w1.heap.size = G := ⟨_, rfl⟩
    rw [hG] at HG HWV ⊢
    clear hV1 bV1 PF B1 hG
    have y0 := HG.out.cell 0
    have y1 := HG.out.cell 1
    have y2 := HG.out.cell 2
    have x0 := (HX.out.below BV1.out HX.out.lt).cell 0
    have x1 := (HX.out.below BV1.out HX.out.lt).cell 1
    have x2 := (HX.out.below BV1.out HX.out.lt).cell 2
    clear y0 y1 y2
    go_upto_region 5 with (first
      | (go_at_call 12; (with_reducible refine (HRO.out _ BV1.out).mono ?_); rintro e w2 ⟨rfl, b2⟩; have B2 := Lib.hid b2; have BV2 := Lib.hid (BV1.out.trans (b2.mono BV1.out.size)); have HG2 := Lib.hid (HG.out.below b2 HG.out.lt); have y0 := HG2.out.cell 0; have y1 := HG2.out.cell 1; have y2 := HG2.out.cell 2; have x1 := (HX.out.below BV2.out HX.out.lt).cell 1; have HZV := Lib.hid (HZ.out.below BV2.out HZ.out.lt); have g0 := HZV.out.cell 0; have g1 := HZV.out.cell 1; have g2 := HZV.out.cell 2; have f0 := HZV.out.free 0; have f1 := HZV.out.free 1; have f2 := HZV.out.free 2; clear b2)
      | (go_at_call 25; (with_reducible refine (HSO.out _ BV2.out).mono ?_); rintro e w3 ⟨A4, c4, rfl, o3, b3⟩; rw [HSL.out] at o3; rw [HSL.out]; have O3 := Lib.hid o3; have B3 := Lib.hid b3; clear o3 b3))
    have hX3 : ∃ x, w2.alloc (.cells #[.slice A n c] 22) = x := ⟨_, rfl⟩
    obtain ⟨X3, hX3⟩ := hX3
    have b2X : Below w2.heap.size w2 X3 := hX3 ▸ (Below.refl _ _).alloc (Nat.le_refl _) _
    rw [hX3] at O3 B3
    have BX3 : Hid (Below W1.heap.size W1 X3) := Lib.hid (BV2.out.trans (b2X.mono BV2.out.size))
    have HGX := Lib.hid (HG2.out.below b2X HG2.out.lt)
    have PX := Lib.hid ((PV.out.below B2.out).below b2X)
    have HZX := Lib.hid (HZ.out.below BX3.out HZ.out.lt)
    have HWX : Hid (w.heap.size ≤ X3.heap.size) := Lib.hid (Nat.le_trans HSZ.out.1 BX3.out.size)
    have hG3 := HGX.out.below B3.out HGX.out.lt
    have HG3 := Lib.hid hG3
    have hZ3 := HZX.out.below B3.out HZX.out.lt
    have HZ3 := Lib.hid hZ3
    have HRZ := Lib.hid (RowZ.of_own O3.out)
    have r1 := HRZ.out.room
    have r2 := HRZ.out.most
    have r3 : c4 ≤ 9223372036854775807 := by unfold maxLen at r2; omega
    clear hX3 b2X hG3 hZ3
    by_cases hNn : N ≤ n
    · have hmin : min (N : Int) (n : Int) = (N : Int) := by omega
      have hDL : (sr.drop N).length = n - N := by rw [List.length_drop, HSL.out]
      have HDL := Lib.hid hDL
      have HNn := Lib.hid hNn
      obtain ⟨AL, hAL⟩ : ∃ x, (if c4 = N then A4 else Option.map (fun x => x.add N) A4) = x := ⟨_, rfl⟩
      have HCL : Hid (∀ w1, Below w3.heap.size w3 w1 → Calls Try.prog 28 #[.slice AL (n - N) (c4 - N)] w1 (OwnZ (sr.drop N) w1)) := Lib.hid (fun w1 b1 => cloneZ13_any _ _ _ _ w1 (hAL ▸ (HRZ.out.cut hNn).below b1) (by omega))
      clear hDL
      go_wp2_with (go_at_call 28; (with_reducible refine (HCL.out _ (Below.refl _ _)).mono ?_); rintro e w5 ⟨A6, c6, rfl, o5, b5⟩; rw [HDL.out] at o5; (try rw [HDL.out]); have O5 := Lib.hid o5; have B5 := Lib.hid b5; have HG5 := Lib.hid (HG3.out.below b5 HG3.out.lt); have y1 := HG5.out.cell 1; have e1 := HG5.out.free 1; clear o5 b5)
      have HG6 := Lib.hid (HG5.out.store 1 (.slice A6 (n - N) c6))
      have HZ6 := Lib.hid ((HZ3.out.below B5.out HZ3.out.lt).away (p := ⟨G, 1, none⟩) (by show w.heap.size + 1 ≠ G; have := HWV.out.2; omega) (.slice A6 (n - N) c6))
      have P6 := Lib.hid ((((PX.out.below B3.out).below B5.out).store HG5.out 1 (.slice A6 (n - N) c6)).put (h' := h) (((RowF.of_own O5.out).low (Nat.le_trans HWX.out (Nat.le_trans B3.out.size (Nat.le_refl _)))).store HG5.out (by decide) 1 (.slice A6 (n - N) c6)))
      have O6 := Lib.hid (own_cell13 (own_below13 (own_cut13 O3.out HNn.out) B5.out) HG5.out (by decide) 1 (.slice A6 (n - N) c6))
      have B6 := Lib.hid ((B3.out.trans (B5.out.mono B3.out.size)))
      have BF : Hid (Below w.heap.size w (w5.setCell ⟨G, 1, none⟩ (.slice A6 (n - N) c6))) := Lib.hid ((HBW.out.trans ((BX3.out.trans (B6.out.mono BX3.out.size)).mono HSZ.out.1)).setCell (p := ⟨G, 1, none⟩) HWV.out.1 _)
      obtain ⟨W6, hW6⟩ : ∃ x, w5.setCell ⟨G, 1, none⟩ (.slice A6 (n - N) c6) = x := ⟨_, rfl⟩
      rw [hW6] at HG6 HZ6 P6 O6 BF ⊢
      clear hW6
      go_loopw [12, 44] (fun v i wr => v = .slice A4 N c4 ∧ i = .int .i64 0 ∧ wr = W6) (fun _ _ _ => 0)
      case atStart => exact ⟨rfl, rfl, rfl⟩
      case round =>
        obtain ⟨rfl, rfl, rfl⟩ := hrel
        have g0 := HZ6.out.cell 0
        have g1 := HZ6.out.cell 1
        have g2 := HZ6.out.cell 2
        have f0 := HZ6.out.free 0
        have f1 := HZ6.out.free 1
        have f2 := HZ6.out.free 2
        have y0 := HG6.out.cell 0
        have y1 := HG6.out.cell 1
        have y2 := HG6.out.cell 2
        go_wp2
        have k3 := ((HZ6.out.store 0 (.int .i64 h)).store 1 (.slice A6 (n - N) c6)).store 2 (.slice Bb m d1)
        have q0 := k3.cell 0
        have q1 := k3.cell 1
        have q2 := k3.cell 2
        refine ⟨rfl, .tuple #[.agg #[.int .i64 h, .slice A6 (n - N) c6, .slice Bb m d1], .slice A4 N c4, .bool true], ?_, h, A6, n - N, c6, Bb, m, d1, ss, A4, N, c4, rfl, ?_, fun _ => ⟨?_, ?_, ?_⟩, fun e => absurd HYES.out e⟩
        · simp at q0 q1 q2
          simp [results, Try.f19, go_sem, q0, q1, q2]
        · exact below_put3 BF.out (Nat.le_succ _) _ _ _
        · show p.hi + ((N - p.free.length : Nat) : Int) = h
          have := HNF.out
          have := HHI.out
          have := HNn.out
          omega
        · have h9 := P6.out.put3 HZ6.out (.int .i64 h) (.slice A6 (n - N) c6) (.slice Bb m d1)
          have h10 := h9.put (h' := (takeP p N).hi) h9.free
          rw [← HSR.out] at h10
          exact h10
        · have h9 := (own_put3 O6.out HZ6.out (by decide) (.int .i64 h) (.slice A6 (n - N) c6) (.slice Bb m d1)).mono HWX.out
          rw [show takenP p N = sr.take N by unfold takenP; rw [HSR.out, show N - p.free.length = 0 by have := HNF.out; have := HNn.out; omega]; simp [newP], List.map_take]
          exact h9
    · have hmin : min (N : Int) (n : Int) = (n : Int) := by omega
      obtain ⟨D, hD⟩ : ∃ D, N = n + D := ⟨N - n, by omega⟩
      have hsub : (N : Int) - (n : Int) = (D : Int) := by omega
      have HD := Lib.hid hD
      have hDD : D ≤ 2199023365552 := by omega
      have hh : h < 2097152 ∧ -4096 < h := by have h1 := HSM.out.2.2; have := HHI.out; omega
      obtain ⟨hh1, hh2⟩ := hh
      have HNn := Lib.hid hNn
      obtain ⟨i0, hi, hz0, hz1, hz2⟩ := info_parts int_info13
      obtain ⟨AL, hAL⟩ : ∃ x, (if c4 = n then A4 else Option.map (fun x => x.add n) A4) = x := ⟨_, rfl⟩
      have HCL : Hid (∀ w1, Below w3.heap.size w3 w1 → Calls Try.prog 28 #[.slice AL 0 (c4 - n)] w1 (OwnZ [] w1)) := Lib.hid (fun w1 b1 => by
        have h1 := (HRZ.out.cut (Nat.le_refl n)).below b1
        rw [Nat.sub_self, List.drop_eq_nil_of_le (Nat.le_of_eq HSL.out), hAL] at h1
        exact cloneZ13_any _ _ _ _ w1 h1 (by omega))
      clear hNn hD
      go_wp2_with (go_at_call 28; (with_reducible refine (HCL.out _ (Below.refl _ _)).mono ?_); rintro e w5 ⟨A6, c6, rfl, o5, b5⟩; have O5 := Lib.hid o5; have B5 := Lib.hid b5; have HG5 := Lib.hid (HG3.out.below b5 HG3.out.lt); have y1 := HG5.out.cell 1; have e1 := HG5.out.free 1; clear o5 b5)
      have HG6 : Hid (Has _ G 25 #[.int .i64 h, .slice A6 0 c6, .slice Bb m d1]) := Lib.hid (HG5.out.store 1 (.slice A6 0 c6))
      have RE := Lib.hid (RowZ.of_own O5.out)
      have O6 := Lib.hid (own_cell13 (own_below13 O3.out B5.out) HG5.out (by decide) 1 (.slice A6 0 c6))
      have B6 := Lib.hid (B3.out.trans (B5.out.mono B3.out.size))
      have GX : Hid (X3.grownBy (w5.setCell ⟨G, 1, none⟩ (.slice A6 0 c6)) (some G)) := Lib.hid (only_store (grown_of_below B6.out) 1 _)
      obtain ⟨W6, hW6⟩ : ∃ x, w5.setCell ⟨G, 1, none⟩ (.slice A6 0 c6) = x := ⟨_, rfl⟩
      rw [hW6] at HG6 O6 GX ⊢
      clear hW6
      go_loopw [12, 44] (fun v i wr => ∃ j : Nat, j ≤ D ∧ i = .int .i64 (j : Int) ∧ X3.grownBy wr (some G) ∧ Has wr G 25 #[.int .i64 (h + (j : Int)), .slice A6 0 c6, .slice Bb m d1] ∧ wr.ownsRow X3.heap.size 3 1 v (n + j) ((sr ++ newP h j).map (Value.int .i64))) (fun _ i _ => D - (intOf i).toNat)
      case atStart => exact ⟨0, Nat.zero_le _, rfl, GX.out, by simpa using HG6.out, by simpa [newP] using O6.out⟩
      case round =>
        obtain ⟨j, hj, rfl, hg, hb, ho⟩ := hrel
        obtain ⟨A7, c7, rfl, _⟩ := RowZ.own ho
        have GB := Lib.hid hg
        have RB := Lib.hid hb
        have OB := Lib.hid ho
        have y0 := hb.cell 0
        have y1 := hb.cell 1
        have y2 := hb.cell 2
        clear hg hb ho
        by_cases hlt : j < D
        · have i1 : (j : Int) < (D : Int) := by omega
          obtain ⟨x, hx⟩ : ∃ x, h + (j : Int) = x := ⟨_, rfl⟩
          have HX9 := Lib.hid hx
          rw [hx] at y0 RB
          have hx1 : -4096 < x := by omega
          have hx2 : x < 2199999999999 := by omega
          clear hx
          go_wp2_with (at_builtin; (refine wpList_append_own _ rfl _ _ 22 rfl X3.heap.size 3 i0 (.int .i64 0) 1 8 Try.underlying22 hi hz0 hz1 hz2 rfl (by decide) _ (n + j) _ rfl (OB.out.alloc _) ⟨wr.heap.size, 0, none⟩ 1 1 [.int .i64 x] rfl rfl (lies_one13 _ _ _) (by simp [Value.oneCell']) (by unfold maxLen; omega) (by omega) (Nat.le_trans GB.out.size (by simp)) ?_; intro v4 w4 h7 h8 hnil; clear hnil; have O4 := Lib.hid h7; have G4 := Lib.hid (grown_own_pe (grown_alloc_pe GB.out _) (OB.out.alloc _) (Nat.le_refl _) h8); have R4 := Lib.hid (Has.kept13 (Has.alloc RB.out _) (OB.out.alloc _) (by decide) h8); have y0 := R4.out.cell 0; have e0 := R4.out.free 0; clear h7 h8))
          go_roundw
          case rel =>
            refine ⟨j + 1, by omega, by go_num, only_store G4.out 0 _, ?_, ?_⟩
            · have := R4.out.store 0 (.int .i64 (x + 1))
              rw [show h + ((j + 1 : Nat) : Int) = x + 1 by have := HX9.out; omega]
              exact this
            · have h9 := own_cell13 O4.out R4.out (by decide) 0 (.int .i64 (x + 1))
              rw [show sr ++ newP h (j + 1) = (sr ++ newP h j) ++ [x] by rw [List.append_assoc]; congr 1; unfold newP; rw [List.range_succ, List.map_append, ← HX9.out]; rfl, List.map_append]
              exact h9
          case measure => simp [intOf]; omega
        · obtain rfl : j = D := by omega
          have hltI : ¬ (j : Int) < (j : Int) := by omega
          have HZ6 := Lib.hid (HZX.out.grown GB.out (by intro e; injection e with e; have := HWV.out.2; omega))
          have P6 := Lib.hid (PX.out.grown HGX.out GB.out)
          have g0 := HZ6.out.cell 0
          have g1 := HZ6.out.cell 1
          have g2 := HZ6.out.cell 2
          have f0 := HZ6.out.free 0
          have f1 := HZ6.out.free 1
          have f2 := HZ6.out.free 2
          obtain ⟨x, hx⟩ : ∃ x, h + (j : Int) = x := ⟨_, rfl⟩
          have HX9 := Lib.hid hx
          rw [hx] at y0 RB
          obtain ⟨w7, hw7⟩ : ∃ w7 : World, w7 = wr := ⟨_, rfl⟩
          subst hw7
          clear hx
          go_wp2
          have k3 := ((HZ6.out.store 0 (.int .i64 x)).store 1 (.slice A6 0 c6)).store 2 (.slice Bb m d1)
          have q0 := k3.cell 0
          have q1 := k3.cell 1
          have q2 := k3.cell 2
          refine ⟨rfl, .tuple #[.agg #[.int .i64 x, .slice A6 0 c6, .slice Bb m d1], .slice A7 (n + j) c7, .bool true], ?_, x, A6, 0, c6, Bb, m, d1, ss, A7, n + j, c7, rfl, ?_, ?_, ?_, ?_⟩
          · simp at q0 q1 q2
            simp [results, Try.f19, go_sem, q0, q1, q2]
          · exact below_put3 (HBW.out.trans ((BX3.out.mono HSZ.out.1).trans (below_of_grown GB.out HWX.out HWV.out.1))) (Nat.le_succ _) _ _ _
          · show p.hi + ((N - p.free.length : Nat) : Int) = x
            have := HNF.out
            have := HHI.out
            have := HD.out
            have := HX9.out
            omega
          · have h9 := P6.out.put3 HZ6.out (.int .i64 x) (.slice A6 0 c6) (.slice Bb m d1)
            have h10 := h9.put (h' := (takeP p N).hi) (A' := A6) (n' := 0) (c' := c6) (l := []) ⟨Row.empty, rfl, RE.out.nil, RE.out.room, RE.out.most⟩
            have h11 : (takeP p N).free = [] := by
              show (srtZ p.free).drop N = []
              rw [HSR.out]
              exact List.drop_eq_nil_of_le (by have := HSL.out; have := HD.out; omega)
            rw [← h11] at h10
            exact h10
          · have h9 := (own_put3 OB.out HZ6.out (by decide) (.int .i64 x) (.slice A6 0 c6) (.slice Bb m d1)).mono HWX.out
            rw [show takenP p N = sr ++ newP h j by
              unfold takenP
              rw [HSR.out, HHI.out, List.take_of_length_le (by have := HSL.out; have := HD.out; omega), show N - p.free.length = j by have := HNF.out; have := HD.out; omega]]
            exact h9
  · rw [decide_eq_false hyes]
    have HNO := Lib.hid hyes
    have hno : many < 0 ∨ (0 ≤ many ∧ ro < many) := by omega
    clear hyes
    rcases hno with h0 | ⟨h0, h1⟩
    · go_enter Try.func19, Try.ntmps19
      go_upto_region 2 with (go_at_call 27; (try rw [HW1.out]); (with_reducible refine HOW.out.mono ?_); rintro e w1 ⟨A1, c1, Bb, d1, ss, rfl, hf, hb⟩; have PF := Lib.hid hf; have B1 := Lib.hid hb; clear hf hb)
      obtain ⟨V1, hV1⟩ : ∃ x, w1.alloc (.cells #[.int .i64 h, .slice A1 n c1, .slice Bb m d1] 25) = x := ⟨_, rfl⟩
      rw [hV1]
      have bV1 : Below w1.heap.size w1 V1 := hV1 ▸ (Below.refl _ _).alloc (Nat.le_refl _) _
      have BV1 : Hid (Below W1.heap.size W1 V1) := Lib.hid (B1.out.trans (bV1.mono B1.out.size))
      have HG : Hid (Has V1 w1.heap.size 25 #[.int .i64 h, .slice A1 n c1, .slice Bb m d1]) := Lib.hid (hV1 ▸ Has.made _ _ _)
      have PV : Hid (PoolF V1 w.heap.size A1 n c1 Bb m d1 p ss) := Lib.hid ((PF.out.below bV1).low HSZ.out.1)
      have HWV : Hid (w.heap.size ≤ w1.heap.size ∧ w.heap.size + 1 + 1 ≤ w1.heap.size) := Lib.hid (by have := HSZ.out; have := B1.out.size; omega)
      obtain ⟨G, hG⟩ : ∃ G, w1.heap.size = G := ⟨_, rfl⟩
      rw [hG] at HG HWV ⊢
      clear hV1 bV1 PF B1 hG
      have y0 := HG.out.cell 0
      have y1 := HG.out.cell 1
      have y2 := HG.out.cell 2
      have x0 := (HX.out.below BV1.out HX.out.lt).cell 0
      have x1 := (HX.out.below BV1.out HX.out.lt).cell 1
      have x2 := (HX.out.below BV1.out HX.out.lt).cell 2
      have hz := HZ.out.below BV1.out HZ.out.lt
      have g0 := hz.cell 0
      have g1 := hz.cell 1
      have g2 := hz.cell 2
      have f0 := hz.free 0
      have f1 := hz.free 1
      have f2 := hz.free 2
      have HZV := Lib.hid hz
      clear hz
      go_wp2
      have k3 := ((HZV.out.store 0 (.int .i64 h)).store 1 (.slice A1 n c1)).store 2 (.slice Bb m d1)
      have q0 := k3.cell 0
      have q1 := k3.cell 1
      have q2 := k3.cell 2
      refine ⟨rfl, .tuple #[.agg #[.int .i64 h, .slice A1 n c1, .slice Bb m d1], .slice none 0 0, .bool false], ?_, h, A1, n, c1, Bb, m, d1, ss, none, 0, 0, rfl, ?_, fun e => absurd e HNO.out, fun _ => ⟨rfl, ?_, rfl⟩⟩
      · simp at q0 q1 q2
        simp [results, Try.f19, go_sem, q0, q1, q2]
      · exact (((HBW.out.trans (BV1.out.mono HSZ.out.1)).setCell (p := ⟨w.heap.size + 1, 0, none⟩) (Nat.le_succ _) _).setCell (p := ⟨w.heap.size + 1, 1, none⟩) (Nat.le_succ _) _).setCell (p := ⟨w.heap.size + 1, 2, none⟩) (Nat.le_succ _) _
      · exact ((PV.out.store HZV.out 0 (.int .i64 h)).store (HZV.out.store 0 (.int .i64 h)) 1 (.slice A1 n c1)).store ((HZV.out.store 0 (.int .i64 h)).store 1 (.slice A1 n c1)) 2 (.slice Bb m d1)
    · go_enter Try.func19, Try.ntmps19
      go_upto_region 2 with (go_at_call 27; (try rw [HW1.out]); (with_reducible refine HOW.out.mono ?_); rintro e w1 ⟨A1, c1, Bb, d1, ss, rfl, hf, hb⟩; have PF := Lib.hid hf; have B1 := Lib.hid hb; clear hf hb)
      obtain ⟨V1, hV1⟩ : ∃ x, w1.alloc (.cells #[.int .i64 h, .slice A1 n c1, .slice Bb m d1] 25) = x := ⟨_, rfl⟩
      rw [hV1]
      have bV1 : Below w1.heap.size w1 V1 := hV1 ▸ (Below.refl _ _).alloc (Nat.le_refl _) _
      have BV1 : Hid (Below W1.heap.size W1 V1) := Lib.hid (B1.out.trans (bV1.mono B1.out.size))
      have HG : Hid (Has V1 w1.heap.size 25 #[.int .i64 h, .slice A1 n c1, .slice Bb m d1]) := Lib.hid (hV1 ▸ Has.made _ _ _)
      have PV : Hid (PoolF V1 w.heap.size A1 n c1 Bb m d1 p ss) := Lib.hid ((PF.out.below bV1).low HSZ.out.1)
      have HWV : Hid (w.heap.size ≤ w1.heap.size ∧ w.heap.size + 1 + 1 ≤ w1.heap.size) := Lib.hid (by have := HSZ.out; have := B1.out.size; omega)
      obtain ⟨G, hG⟩ : ∃ G, w1.heap.size = G := ⟨_, rfl⟩
      rw [hG] at HG HWV ⊢
      clear hV1 bV1 PF B1 hG
      have y0 := HG.out.cell 0
      have y1 := HG.out.cell 1
      have y2 := HG.out.cell 2
      have x0 := (HX.out.below BV1.out HX.out.lt).cell 0
      have x1 := (HX.out.below BV1.out HX.out.lt).cell 1
      have x2 := (HX.out.below BV1.out HX.out.lt).cell 2
      have h00 : ¬ many < 0 := by omega
      clear y0 y1 y2
      go_wp2_with (go_at_call 12; (with_reducible refine (HRO.out _ BV1.out).mono ?_); rintro e w2 ⟨rfl, b2⟩; have B2 := Lib.hid b2; have BV2 := Lib.hid (BV1.out.trans (b2.mono BV1.out.size)); have HG2 := Lib.hid (HG.out.below b2 HG.out.lt); have y0 := HG2.out.cell 0; have y1 := HG2.out.cell 1; have y2 := HG2.out.cell 2; have x1 := (HX.out.below BV2.out HX.out.lt).cell 1; have HZV := Lib.hid (HZ.out.below BV2.out HZ.out.lt); have g0 := HZV.out.cell 0; have g1 := HZV.out.cell 1; have g2 := HZV.out.cell 2; have f0 := HZV.out.free 0; have f1 := HZV.out.free 1; have f2 := HZV.out.free 2; clear b2)
      have k3 := ((HZV.out.store 0 (.int .i64 h)).store 1 (.slice A1 n c1)).store 2 (.slice Bb m d1)
      have q0 := k3.cell 0
      have q1 := k3.cell 1
      have q2 := k3.cell 2
      refine ⟨rfl, .tuple #[.agg #[.int .i64 h, .slice A1 n c1, .slice Bb m d1], .slice none 0 0, .bool false], ?_, h, A1, n, c1, Bb, m, d1, ss, none, 0, 0, rfl, ?_, fun e => absurd e HNO.out, fun _ => ⟨rfl, ?_, rfl⟩⟩
      · simp at q0 q1 q2
        simp [results, Try.f19, go_sem, q0, q1, q2]
      · exact (((HBW.out.trans (BV2.out.mono HSZ.out.1)).setCell (p := ⟨w.heap.size + 1, 0, none⟩) (Nat.le_succ _) _).setCell (p := ⟨w.heap.size + 1, 1, none⟩) (Nat.le_succ _) _).setCell (p := ⟨w.heap.size + 1, 2, none⟩) (Nat.le_succ _) _
      · exact (((PV.out.below B2.out).store HZV.out 0 (.int .i64 h)).store (HZV.out.store 0 (.int .i64 h)) 1 (.slice A1 n c1)).store ((HZV.out.store 0 (.int .i64 h)).store 1 (.slice A1 n c1)) 2 (.slice Bb m d1)
end
end Go.Proofs.Ytoelojlabmconaa
