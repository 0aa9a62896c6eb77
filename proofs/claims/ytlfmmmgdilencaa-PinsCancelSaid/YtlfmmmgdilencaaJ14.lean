import Derived.Test.YtlfmmmgdilencaaJ00
import Derived.Lib.Strings
import Derived.Lib.Slices
import Derived.Lib.Small
import Derived.Lib.Walk
import Derived.Lib.BitFns
import Derived.Laws.Bits64
import Derived.Laws.Bits64b
import Derived.Sort.LotD1
import Derived.Sort.LotD5
import Derived.Sort.Row
import Derived.Test.YtlfmmmgdilencaaJSug
/- Of a claim's texts, joined: Suh Suk. No statement but in the last. -/
section
namespace Go.Proofs.Ytlfmmmgdilencaa
open Go.RowKit Go.Sort
set_option linter.unusedVariables false

theorem bitLenU : ∀ (f x : Nat), x < 2 ^ f → Lib.bitLenAux f x = bitsLen x
  | 0, x, h => by
    obtain rfl : x = 0 := by omega
    rfl
  | f + 1, x, h => by
    unfold Lib.bitLenAux
    by_cases h0 : x = 0
    · subst h0
      rfl
    · rw [if_neg h0, bitLenU f (x / 2) (by omega)]
      unfold bitsLen
      rw [if_neg h0, Nat.log2_def x]
      by_cases h2 : 2 ≤ x
      · rw [if_pos h2, if_neg (by omega)]
        omega
      · obtain rfl : x = 1 := by omega
        simp
theorem bitLenU64 {x : Nat} (h : x < 65536) : Lib.bitLen x = bitsLen x := bitLenU 64 x (by omega)
set_option maxHeartbeats 4000000 in
set_option maxRecDepth 100000 in
theorem bLen64Lo (x : Int) (w : World) (h0 : 0 ≤ x) (h1 : x ≤ 255) : Calls Try.prog 32 #[.int .u64 x] w fun e w' => e = .returned (.int .i64 (Lib.bitLen x.toNat)) ∧ w' = w := by
  have h2 : x < 256 := by omega
  have h3 : x < 65536 := by omega
  have h4 : x < 4294967296 := by omega
  have l := Lib.len8_of x h0 h1
  have l2 := Lib.bitLen_le8' x h0 h1
  obtain ⟨z, hz⟩ : ∃ z, Lib.len8 x = z := ⟨_, rfl⟩
  have e1 : wrap64 (wrap64 z) = (Lib.bitLen x.toNat : Int) := by
    rw [← hz, l]
    simp only [wrap64]
    omega
  clear l l2
  go_enter Try.func32, Try.ntmps32
  go_wp2
  go_ret
  exact ⟨by simp [e1], rfl⟩
set_option maxHeartbeats 4000000 in
set_option maxRecDepth 100000 in
theorem bLen64Hi (x : Int) (w : World) (h0 : 256 ≤ x) (h1 : x ≤ 65535) : Calls Try.prog 32 #[.int .u64 x] w fun e w' => e = .returned (.int .i64 (Lib.bitLen x.toNat)) ∧ w' = w := by
  have h2 : ¬ x < 256 := by omega
  have h3 : x < 65536 := by omega
  have h4 : x < 4294967296 := by omega
  have h5 : 0 ≤ x / 256 := by omega
  have h6 : x / 256 ≤ 255 := by omega
  have h7 : x / 256 < 256 := by omega
  have l := Lib.len8_of (x / 256) h5 h6
  have l2 := Lib.bitLen_le8' (x / 256) h5 h6
  have l3 := Lib.bitLen_shift8 x.toNat (by omega) (by omega)
  rw [show x.toNat / 256 = (x / 256).toNat by omega] at l3
  obtain ⟨z, hz⟩ : ∃ z, Lib.len8 (x / 256) = z := ⟨_, rfl⟩
  have e1 : wrap64 (8 + wrap64 z) = (Lib.bitLen x.toNat : Int) := by
    rw [← hz, l]
    simp only [wrap64]
    omega
  have e2 : wrap64 (8 + z) = (Lib.bitLen x.toNat : Int) := by
    rw [← hz, l]
    simp only [wrap64]
    omega
  clear l l2 l3
  go_enter Try.func32, Try.ntmps32
  go_wp2
  go_ret
  exact ⟨by first | rfl | simp [e1, e2], rfl⟩
theorem bLen64_any (x : Nat) (hx : x < 65536) (w : World) : Calls Try.prog 32 #[.int .u64 (x : Int)] w fun e w' => e = .returned (.int .i64 (bitsLen x : Int)) ∧ w = w' := by
  have h : Calls Try.prog 32 #[.int .u64 (x : Int)] w fun e w' => e = .returned (.int .i64 (Lib.bitLen (x : Int).toNat)) ∧ w' = w := by
    by_cases h : x < 256
    · exact bLen64Lo (x : Int) w (by omega) (by omega)
    · exact bLen64Hi (x : Int) w (by omega) (by omega)
  rw [Int.toNat_natCast, bitLenU64 hx] at h
  exact h.mono (fun e w' h => ⟨h.1, h.2.symm⟩)
theorem bLen_any (x : Nat) (hx : x < 65536) (w : World) : Calls Try.prog 21 #[.int .u64 (x : Int)] w fun e w' => e = .returned (.int .i64 (bitsLen x : Int)) ∧ w = w' := by
  have H := Lib.hid (bLen64_any x hx w)
  generalize bitsLen x = z at H
  go_enter Try.func21, Try.ntmps21
  go_wp2_with (go_at_call 32; (with_reducible refine H.out.mono ?_); rintro e w' ⟨rfl, rfl⟩)
  go_ret
  exact ⟨rfl, rfl⟩
theorem wrapPowU (k : Nat) (hk : k ≤ 62) : IntKind.u64.wrap ((2 : Int) ^ k) = ((1 <<< k : Nat) : Int) := by
  have h : (2 : Nat) ^ k ≤ 2 ^ 62 := Nat.pow_le_pow_right (by decide) hk
  rw [IntKind.wrap_u64, Nat.one_shiftLeft, show ((2 : Int) ^ k) = ((2 ^ k : Nat) : Int) by push_cast; rfl]
  generalize (2 : Nat) ^ k = p at h
  omega
theorem nextPowU_any (n : Nat) (hn : n < 65536) (w : World) : Calls Try.prog 34 #[.int .i64 (n : Int)] w fun e w' => e = .returned (.int .u64 ((1 <<< bitsLen n : Nat) : Int)) ∧ w = w' := by
  have H := Lib.hid (bLen_any n hn w)
  have hk : bitsLen n ≤ 62 := (bitsLen_le_iff n 62).2 (by omega)
  have hp := wrapPowU (bitsLen n) hk
  generalize bitsLen n = z at H hk hp
  go_enter Try.func34, Try.ntmps34
  go_wp2_with (go_at_call 21; (with_reducible refine H.out.mono ?_); rintro e w' ⟨rfl, rfl⟩)
  go_ret
  exact ⟨rfl, rfl⟩
theorem setTwiceU (w : World) (Q : Nat) (v v' : Value) : (w.setCell ⟨Q, 0, none⟩ v).setCell ⟨Q, 0, none⟩ v' = w.setCell ⟨Q, 0, none⟩ v' := by
  rw [setCell_eq, setCell_eq, mapBlock_mapBlock, setCell_eq]
  congr 1
  funext c
  simp
set_option maxRecDepth 100000 in
set_option maxHeartbeats 4000000 in
theorem nextU_any (Q X : Nat) (hX : X < 18446744073709551616) (w : World) (hc : w.cell? ⟨Q, 0, none⟩ = some (.int .u64 (X : Int))) (hf : w.frozen? ⟨Q, 0, none⟩ = false) :
    Calls Try.prog 35 #[.pointer (some ⟨Q, 0, none⟩)] w fun e w' => e = .returned (.int .u64 (xorNextN X : Nat)) ∧ w' = (w.setCell ⟨Q, 0, none⟩ (.int .u64 (xorNextN X : Nat))).drewN 3 := by
  obtain ⟨A, hA⟩ : ∃ A : Nat, A = X ^^^ (X * 8192 % 18446744073709551616) := ⟨_, rfl⟩
  obtain ⟨B, hB⟩ : ∃ B : Nat, B = A ^^^ (A / 128) := ⟨_, rfl⟩
  obtain ⟨C, hC⟩ : ∃ C : Nat, C = B ^^^ (B * 131072 % 18446744073709551616) := ⟨_, rfl⟩
  have lA : A < 18446744073709551616 := by rw [hA]; exact Nat.xor_lt_two_pow (n := 64) (by omega) (by omega)
  have lB : B < 18446744073709551616 := by rw [hB]; exact Nat.xor_lt_two_pow (n := 64) (by omega) (by omega)
  have e1 : bits .xor .u64 (X : Int) (IntKind.u64.wrap ((X : Int) * 8192)) = (A : Int) := by
    rw [IntKind.wrap_u64, show ((X : Int) * 8192 % 18446744073709551616) = ((X * 8192 % 18446744073709551616 : Nat) : Int) by omega, bits_xor_u64_nat _ _ hX (by omega), hA]
  have e2 : bits .xor .u64 (A : Int) ((A : Int) / 128) = (B : Int) := by
    rw [show ((A : Int) / 128) = ((A / 128 : Nat) : Int) by omega, bits_xor_u64_nat _ _ lA (by omega), hB]
  have e3 : bits .xor .u64 (B : Int) (IntKind.u64.wrap ((B : Int) * 131072)) = (C : Int) := by
    rw [IntKind.wrap_u64, show ((B : Int) * 131072 % 18446744073709551616) = ((B * 131072 % 18446744073709551616 : Nat) : Int) by omega, bits_xor_u64_nat _ _ lB (by omega), hC]
  have hv : xorNextN X = C := by unfold xorNextN; simp only []; rw [← hA, ← hB, ← hC]
  rw [hv]
  clear hA hB hC hv
  have hss : ∀ v v', (w.setCell ⟨Q, 0, none⟩ v).setCell ⟨Q, 0, none⟩ v' = w.setCell ⟨Q, 0, none⟩ v' := setTwiceU w Q
  go_enter Try.func35, Try.ntmps35
  go_wp2
  go_region
  all_goals go_wp2
  all_goals go_region
  all_goals go_wp2
  all_goals go_region
  all_goals go_wp2
  go_ret
  exact ⟨rfl, rfl⟩
end Go.Proofs.Ytlfmmmgdilencaa
end

section
namespace Go.Proofs.Ytlfmmmgdilencaa
open Go.RowKit Go.Sort
set_option linter.unusedVariables false

def bpU (a L M i0 : Nat) (d : Array Nat) : Nat → UInt64 × Array Nat
  | 0 => (UInt64.ofNat L, d)
  | t + 1 => breakStep a L M (bpU a L M i0 d t) (i0 + t)
theorem bpU_eq (a L : Nat) (d : Array Nat) (h : 8 ≤ L) : breakPatterns d a (a + L) = (bpU a L (1 <<< bitsLen L) (a + L / 4 * 2 - 1) d 3).2 := by
  unfold breakPatterns
  simp only [Nat.add_sub_cancel_left]
  rw [if_pos h]
  rfl
structure XoU (W : World) (g off n : Nat) (d : Array Nat) (q s : Nat) (w : World) : Prop where
  su : SU W g off n d w
  bx : Has w q 62 #[.int .u64 (s : Int)]
  low : W.heap.size ≤ q
  ne : g ≠ q
theorem XoU.drew {W w : World} {g off n q s : Nat} {d : Array Nat} (h : XoU W g off n d q s w) : XoU W g off n d q s w.drew := ⟨h.su.drew, h.bx, h.low, h.ne⟩
theorem XoU.put {W w : World} {g off n q s : Nat} {d : Array Nat} (h : XoU W g off n d q s w) (t : Nat) : XoU W g off n d q t (w.setCell ⟨q, 0, none⟩ (.int .u64 (t : Int))) :=
  ⟨⟨h.su.size, fun i hi => (World.cell?_setCell_other _ _ _ _ (by intro e; injection e with e; exact h.ne e.symm)).trans (h.su.cell i hi),
    ⟨h.su.gr.os, h.su.gr.tape, h.su.gr.output, by simpa [World.setCell] using h.su.gr.size, fun i hi hne => (Below.heap_setCell w _ _ i (by have := h.low; show i ≠ q; omega)).trans (h.su.gr.block i hi hne)⟩, h.su.most, fun k => by rw [World.frozen?_setCell]; exact h.su.free k⟩,
   by have := h.bx.store 0 (.int .u64 (t : Int)); simpa using this, h.low, h.ne⟩
theorem XoU.swap {W w : World} {g off n q s : Nat} {d : Array Nat} (h : XoU W g off n d q s w) {i j : Nat} (hi : i < n) (hj : j < n) :
    XoU W g off n (swp d i j) q s ((w.setCell ⟨g, off + i, none⟩ (.int .u64 (d[j]! : Int))).setCell ⟨g, off + j, none⟩ (.int .u64 (d[i]! : Int))) ∧ ∃ u, (w.setCell ⟨g, off + i, none⟩ (.int .u64 (d[j]! : Int))).cell? ⟨g, off + j, none⟩ = some u := by
  obtain ⟨h1, h2⟩ := h.su.swap hi hj
  refine ⟨⟨h1, ?_, h.low, h.ne⟩, h2⟩
  exact (h.bx.away (p := ⟨g, off + i, none⟩) (fun e => h.ne e.symm) _).away (p := ⟨g, off + j, none⟩) (fun e => h.ne e.symm) _
set_option maxRecDepth 100000 in
set_option maxHeartbeats 8000000 in
theorem oBreakU_any {g off n : Nat} (c a b : Nat) (d : Array Nat) (W0 W : World) (h : SU W0 g off n d W) (h8 : a + 8 ≤ b) (hb : b ≤ n) (hn : n < 65536) :
    Calls Try.prog 24 #[.slice (some ⟨g, off, none⟩) n c, .int .i64 (a : Int), .int .i64 (b : Int)] W fun e w' => e = .returned (.tuple #[]) ∧ SU W0 g off n (breakPatterns d a b) w' := by
  have hmx : Try.prog.follows .mixedOrders = true := by kernel_rfl
  have hg := h.lt (by omega)
  obtain ⟨L, hL⟩ : ∃ L, b - a = L := ⟨_, rfl⟩
  have hbL : b = a + L := by omega
  obtain ⟨M, hM⟩ : ∃ M : Nat, 1 <<< bitsLen L = M := ⟨_, rfl⟩
  obtain ⟨q, hq⟩ : ∃ q, L / 4 = q := ⟨_, rfl⟩
  obtain ⟨i0, hi0⟩ : ∃ i0, a + q * 2 - 1 = i0 := ⟨_, rfl⟩
  have HB : Hid (breakPatterns d a b = (bpU a L M i0 d 3).2) := Lib.hid (by rw [hbL, bpU_eq a L d (by omega), hM, hq, hi0])
  have hM1 : 1 ≤ M := by rw [← hM, Nat.one_shiftLeft]; exact Nat.two_pow_pos _
  have hM2 : M ≤ 2 * L := by rw [← hM, Nat.one_shiftLeft]; exact two_pow_bitsLen_le (by omega)
  have HNP := Lib.hid (fun w => hM ▸ nextPowU_any L (by omega) w)
  have hm1 : (b : Int) - (a : Int) = (L : Int) := by omega
  have hm8 : (8 : Int) ≤ (L : Int) := by omega
  have hq1 : (L : Int).tdiv 4 = (q : Int) := by rw [Int.tdiv_eq_ediv_of_nonneg (by omega)]; omega
  have hq3 : (L : Int) / 4 = (q : Int) := by omega
  have hq2 : q * 4 ≤ L := by omega
  have hq4 : 2 ≤ q := by omega
  have hj0 : (a : Int) + (q : Int) * 2 - 1 = (i0 : Int) := by omega
  have hj1 : (a : Int) + (q : Int) * 2 + 1 = ((i0 + 2 : Nat) : Int) := by omega
  have hi2 : i0 + 2 < b := by omega
  have hal : a + L ≤ n := by omega
  have hLu : (UInt64.ofNat L).toNat = L := by simp; omega
  obtain ⟨W2, hW2⟩ : ∃ W2, W.alloc (.cells #[.int .u64 (L : Int)] 62) = W2 := ⟨_, rfl⟩
  have H0 : Hid (XoU W0 g off n d W.heap.size L W2) := Lib.hid ⟨h.below (by omega) (by rw [← hW2]; exact (Below.refl _ W).alloc (Nat.le_refl _) _), by rw [← hW2]; exact Has.made _ _ _, h.gr.size, by omega⟩
  have HW2 := Lib.hid hW2
  have HLU := Lib.hid hLu
  clear h hL hM hq hi0 hbL hLu hW2 hg
  go_enter Try.func24, Try.ntmps24
  go_wp2_with (go_at_call 34; (with_reducible refine (HNP.out _).mono ?_); rintro e w5 ⟨rfl, rfl⟩)
  go_loopw [9] (fun vi wr => ∃ (t : Nat) (r : UInt64) (dk : Array Nat), vi = .int .i64 ((i0 + t : Nat) : Int) ∧ t ≤ 3 ∧ bpU a L M i0 d t = (r, dk) ∧ XoU W0 g off n dk W.heap.size r.toNat wr) (fun vi _ => i0 + 3 - (intOf vi).toNat)
  case atStart => exact ⟨0, _, d, rfl, by omega, rfl, by rw [HLU.out, HW2.out]; exact H0.out⟩
  case round =>
    obtain ⟨t, r, dk, rfl, ht, h1, h2⟩ := hrel
    have K1 := Lib.hid h1
    have K2 := Lib.hid h2
    clear h1 h2
    obtain ⟨p, hp⟩ : ∃ p, i0 + t = p := ⟨_, rfl⟩
    rw [hp]
    by_cases ht3 : t < 3
    · have g1 : (p : Int) ≤ ((i0 + 2 : Nat) : Int) := by omega
      obtain ⟨R, hR⟩ : ∃ R, r.toNat = R := ⟨_, rfl⟩
      have lR : R < 18446744073709551616 := by rw [← hR]; exact r.toNat_lt
      rw [hR] at K2
      obtain ⟨R', hR'⟩ : ∃ R', xorNextN R = R' := ⟨_, rfl⟩
      have lR' : R' < 18446744073709551616 := by rw [← hR']; exact xorNextN_lt R lR
      have HN := Lib.hid (hR' ▸ nextU_any W.heap.size R lR wr (K2.out.bx.cell 0) (K2.out.bx.free 0))
      obtain ⟨O, hO⟩ : ∃ O, R' &&& (M - 1) = O := ⟨_, rfl⟩
      have lO : O ≤ M - 1 := by rw [← hO]; exact Nat.and_le_right
      have eAnd : bits .and .u64 (R' : Int) ((M : Int) - 1) = (O : Int) := by
        rw [show ((M : Int) - 1) = ((M - 1 : Nat) : Int) by omega, bits_and_u64_nat _ _ lR' (by omega), hO]
      have N1 : Hid (XoU W0 g off n dk W.heap.size R' ((wr.setCell ⟨W.heap.size, 0, none⟩ (.int .u64 (R' : Int))).drewN 3)) := Lib.hid (K2.out.put R').drew.drew.drew
      have HX : Hid ((xorNext r).toNat = R') := Lib.hid (by rw [xorNext_toNat, hR, hR'])
      have HST : Hid (bpU a L M i0 d (t + 1) = (xorNext r, swp dk p (a + if O ≥ L then O - L else O))) := Lib.hid (by
        show breakStep a L M (bpU a L M i0 d t) (i0 + t) = _
        rw [K1.out]
        unfold breakStep
        simp only [HX.out, hO, hp])
      generalize hw7 : (wr.setCell ⟨W.heap.size, 0, none⟩ (.int .u64 (R' : Int))).drewN 3 = w7 at HN N1
      clear hR hR' hO hw7
      by_cases hOL : L ≤ O
      · have g2 : (L : Int) ≤ (O : Int) := by omega
        rw [if_pos hOL] at HST
        obtain ⟨o, ho⟩ : ∃ o, O - L = o := ⟨_, rfl⟩
        rw [ho] at HST
        have ho1 : (O : Int) - (L : Int) = (o : Int) := by omega
        have hao : a + o < n := by omega
        have ca := N1.out.su.cell p (by omega)
        have cb := N1.out.su.cell (a + o) (by omega)
        have hsw := N1.out.swap (i := p) (j := a + o) (by omega) hao
        have fa := N1.out.su.free (off + p)
        have fb := N1.out.su.free (off + (a + o))
        obtain ⟨x, hx⟩ : ∃ x, dk[p]! = x := ⟨_, rfl⟩
        obtain ⟨y, hy⟩ : ∃ y, dk[a + o]! = y := ⟨_, rfl⟩
        rw [hx] at ca hsw
        rw [hy] at cb hsw
        obtain ⟨hsw1, u, hsw2⟩ := hsw
        have HSW := Lib.hid hsw1.drew
        clear hsw1 hx hy
        have r0 : (0 : Int) ≤ (p : Int) := by omega
        have r1 : (p : Int) < (n : Int) := by omega
        have r2 : (0 : Int) ≤ (a : Int) + (o : Int) := by omega
        have r3 : (a : Int) + (o : Int) < (n : Int) := by omega
        have r4 : ((a : Int) + (o : Int)).toNat = a + o := by omega
        have r5 : IntKind.i64.wrap ((a : Int) + (o : Int)) = (a : Int) + (o : Int) := by rw [IntKind.wrap_i64]; omega
        have hSd : (fun w' : World => w'.cell? ⟨g, off + p, none⟩ = some (.int .u64 (x : Int)) ∧ w'.cell? ⟨g, off + (a + o), none⟩ = some (.int .u64 (y : Int))) _ := ⟨ca, cb⟩
        go_wp2_with (go_at_call 35; (with_reducible refine HN.out.mono ?_); rintro e w5 ⟨rfl, rfl⟩)
        rename_i K hK
        refine wp_heldQ (fun w' : World => w'.cell? ⟨g, off + p, none⟩ = some (.int .u64 (x : Int)) ∧ w'.cell? ⟨g, off + (a + o), none⟩ = some (.int .u64 (y : Int))) 17 hmx ?_
        refine wpAnyK_pure (i := 0) (v := .slice (some ⟨g, off, none⟩) n c) rfl (by kernel_rfl) (by kernel_rfl) (by kernel_rfl) (by decide) (fun _ _ _ h => h) (Or.inl ⟨by rfl, ?_⟩) (.inr hSd) ?_
        · intro w6 _
          go_simp
        simp only [Act.put, List.setIfInBounds_toArray, List.set_cons_zero, List.set_cons_succ, List.getElem_toArray, List.getElem_cons_zero]
        refine wpAnyK_pure (i := 1) (v := .int .i64 (p : Int)) rfl (by kernel_rfl) (by kernel_rfl) (by kernel_rfl) (by decide) (fun _ _ _ h => h) (Or.inl ⟨by rfl, ?_⟩) (.inr hSd) ?_
        · intro w6 _
          go_simp
        simp only [Act.put, List.setIfInBounds_toArray, List.set_cons_zero, List.set_cons_succ, List.getElem_toArray, List.getElem_cons_zero, List.getElem_cons_succ]
        refine wpAnyK_pure (i := 2) (v := .slice (some ⟨g, off, none⟩) n c) rfl (by kernel_rfl) (by kernel_rfl) (by kernel_rfl) (by decide) (fun _ _ _ h => h) (Or.inl ⟨by rfl, ?_⟩) (.inr hSd) ?_
        · intro w6 _
          go_simp
        simp only [Act.put, List.setIfInBounds_toArray, List.set_cons_zero, List.set_cons_succ, List.getElem_toArray, List.getElem_cons_zero, List.getElem_cons_succ]
        refine wpAnyK_pure (i := 3) (v := .int .i64 (a : Int)) rfl (by kernel_rfl) (by kernel_rfl) (by kernel_rfl) (by decide) (fun _ _ _ h => h) (Or.inl ⟨by rfl, ?_⟩) (.inr hSd) ?_
        · intro w6 _
          go_simp
        simp only [Act.put, List.setIfInBounds_toArray, List.set_cons_zero, List.set_cons_succ, List.getElem_toArray, List.getElem_cons_zero, List.getElem_cons_succ]
        refine wpAnyK_pure (i := 4) (v := .int .i64 (o : Int)) rfl (by kernel_rfl) (by kernel_rfl) (by kernel_rfl) (by decide) (fun _ _ _ h => h) (Or.inl ⟨by rfl, ?_⟩) (.inr hSd) ?_
        · intro w6 _
          go_simp
        simp only [Act.put, List.setIfInBounds_toArray, List.set_cons_zero, List.set_cons_succ, List.getElem_toArray, List.getElem_cons_zero, List.getElem_cons_succ]
        refine wpAnyK_pure (i := 5) (v := .int .i64 ((a : Int) + (o : Int))) rfl (by kernel_rfl) (by kernel_rfl) (by kernel_rfl) (by decide) (fun _ _ _ h => h) (Or.inl ⟨by rfl, ?_⟩) (.inr hSd) ?_
        · intro w6 _
          go_simp
        simp only [Act.put, List.setIfInBounds_toArray, List.set_cons_zero, List.set_cons_succ, List.getElem_toArray, List.getElem_cons_zero, List.getElem_cons_succ]
        refine wpAnyK_pure (i := 6) (v := .slice (some ⟨g, off, none⟩) n c) rfl (by kernel_rfl) (by kernel_rfl) (by kernel_rfl) (by decide) (fun _ _ _ h => h) (Or.inl ⟨by rfl, ?_⟩) (.inr hSd) ?_
        · intro w6 _
          go_simp
        simp only [Act.put, List.setIfInBounds_toArray, List.set_cons_zero, List.set_cons_succ, List.getElem_toArray, List.getElem_cons_zero, List.getElem_cons_succ]
        refine wpAnyK_pure (i := 7) (v := .int .i64 (a : Int)) rfl (by kernel_rfl) (by kernel_rfl) (by kernel_rfl) (by decide) (fun _ _ _ h => h) (Or.inl ⟨by rfl, ?_⟩) (.inr hSd) ?_
        · intro w6 _
          go_simp
        simp only [Act.put, List.setIfInBounds_toArray, List.set_cons_zero, List.set_cons_succ, List.getElem_toArray, List.getElem_cons_zero, List.getElem_cons_succ]
        refine wpAnyK_pure (i := 8) (v := .int .i64 (o : Int)) rfl (by kernel_rfl) (by kernel_rfl) (by kernel_rfl) (by decide) (fun _ _ _ h => h) (Or.inl ⟨by rfl, ?_⟩) (.inr hSd) ?_
        · intro w6 _
          go_simp
        simp only [Act.put, List.setIfInBounds_toArray, List.set_cons_zero, List.set_cons_succ, List.getElem_toArray, List.getElem_cons_zero, List.getElem_cons_succ]
        refine wpAnyK_pure (i := 9) (v := .int .i64 ((a : Int) + (o : Int))) rfl (by kernel_rfl) (by kernel_rfl) (by kernel_rfl) (by decide) (fun _ _ _ h => h) (Or.inl ⟨by rfl, ?_⟩) (.inr hSd) ?_
        · intro w6 _
          go_simp
        simp only [Act.put, List.setIfInBounds_toArray, List.set_cons_zero, List.set_cons_succ, List.getElem_toArray, List.getElem_cons_zero, List.getElem_cons_succ]
        refine wpAnyK_pure (i := 10) (v := .pointer (some ⟨g, off + (a + o), none⟩)) rfl (by kernel_rfl) (by kernel_rfl) (by kernel_rfl) (by decide) (fun _ _ _ h => h) (Or.inl ⟨by rfl, ?_⟩) (.inr hSd) ?_
        · intro w6 _
          go_simp
        simp only [Act.put, List.setIfInBounds_toArray, List.set_cons_zero, List.set_cons_succ, List.getElem_toArray, List.getElem_cons_zero, List.getElem_cons_succ]
        refine wpAnyK_take (i := 11) (v := .int .u64 (y : Int)) rfl (by kernel_rfl) (by kernel_rfl) (by kernel_rfl) (by kernel_rfl) (by decide) (by kernel_rfl) (fun _ _ _ h => h) (Or.inl ⟨by rfl, ?_⟩) hSd ?_
        · rintro w6 ⟨k1, k2⟩
          go_simp
        simp only [Act.put, List.setIfInBounds_toArray, List.set_cons_zero, List.set_cons_succ, List.getElem_toArray, List.getElem_cons_zero, List.getElem_cons_succ]
        refine wpAnyK_pure (i := 12) (v := .slice (some ⟨g, off, none⟩) n c) rfl (by kernel_rfl) (by kernel_rfl) (by kernel_rfl) (by decide) (fun _ _ _ h => h) (Or.inl ⟨by rfl, ?_⟩) (.inr hSd) ?_
        · intro w6 _
          go_simp
        simp only [Act.put, List.setIfInBounds_toArray, List.set_cons_zero, List.set_cons_succ, List.getElem_toArray, List.getElem_cons_zero, List.getElem_cons_succ]
        refine wpAnyK_pure (i := 13) (v := .int .i64 (p : Int)) rfl (by kernel_rfl) (by kernel_rfl) (by kernel_rfl) (by decide) (fun _ _ _ h => h) (Or.inl ⟨by rfl, ?_⟩) (.inr hSd) ?_
        · intro w6 _
          go_simp
        simp only [Act.put, List.setIfInBounds_toArray, List.set_cons_zero, List.set_cons_succ, List.getElem_toArray, List.getElem_cons_zero, List.getElem_cons_succ]
        refine wpAnyK_pure (i := 14) (v := .pointer (some ⟨g, off + p, none⟩)) rfl (by kernel_rfl) (by kernel_rfl) (by kernel_rfl) (by decide) (fun _ _ _ h => h) (Or.inl ⟨by rfl, ?_⟩) (.inr hSd) ?_
        · intro w6 _
          go_simp
        simp only [Act.put, List.setIfInBounds_toArray, List.set_cons_zero, List.set_cons_succ, List.getElem_toArray, List.getElem_cons_zero, List.getElem_cons_succ]
        refine wpAnyK_take (i := 15) (v := .int .u64 (x : Int)) rfl (by kernel_rfl) (by kernel_rfl) (by kernel_rfl) (by kernel_rfl) (by decide) (by kernel_rfl) (fun _ _ _ h => h) (Or.inl ⟨by rfl, ?_⟩) hSd ?_
        · rintro w6 ⟨k1, k2⟩
          go_simp
        simp only [Act.put, List.setIfInBounds_toArray, List.set_cons_zero, List.set_cons_succ, List.getElem_toArray, List.getElem_cons_zero, List.getElem_cons_succ]
        refine wpAnyK_pure (i := 16) (v := .pointer (some ⟨g, off + p, none⟩)) rfl (by kernel_rfl) (by kernel_rfl) (by kernel_rfl) (by decide) (fun _ _ _ h => h) (Or.inl ⟨by rfl, ?_⟩) (.inr hSd) ?_
        · intro w6 _
          go_simp
        simp only [Act.put, List.setIfInBounds_toArray, List.set_cons_zero, List.set_cons_succ, List.getElem_toArray, List.getElem_cons_zero, List.getElem_cons_succ]
        refine wpAnyK_one (i := 17) (by kernel_rfl) rfl (fun K5 hK5 => ?_)
        go_simp
        refine hK5.out _ _ (.inl (by kernel_rfl)) ?_
        clear hK5 K5
        refine wpAnyK_pure (i := 18) (v := .pointer (some ⟨g, off + (a + o), none⟩)) rfl (by kernel_rfl) (by kernel_rfl) (by kernel_rfl) (by decide) (fun _ _ _ h => h) (Or.inl ⟨by rfl, ?_⟩) (.inl (by kernel_rfl)) ?_
        · intro w6 _
          go_simp
        simp only [Act.put, List.setIfInBounds_toArray, List.set_cons_zero, List.set_cons_succ, List.getElem_toArray, List.getElem_cons_zero, List.getElem_cons_succ]
        refine wpAnyK_one (i := 19) (by kernel_rfl) rfl (fun K5 hK5 => ?_)
        go_simp
        refine hK5.out _ _ (.inl (by kernel_rfl)) ?_
        clear hK5 K5
        refine wpAnyK_done (by kernel_rfl) ?_ _
        refine hK _ _ ?_
        go_wp2
        go_roundw
        case rel => exact ⟨t + 1, _, _, by go_num, by omega, HST.out, by rw [HX.out]; exact HSW.out⟩
        case measure => simp [intOf]; omega
      · have g2 : ¬ (L : Int) ≤ (O : Int) := by omega
        rw [if_neg hOL] at HST
        obtain ⟨o, ho⟩ : ∃ o, O = o := ⟨_, rfl⟩
        rw [ho] at HST
        have ho1 : (O : Int) = (o : Int) := by omega
        have hao : a + o < n := by omega
        have ca := N1.out.su.cell p (by omega)
        have cb := N1.out.su.cell (a + o) (by omega)
        have hsw := N1.out.swap (i := p) (j := a + o) (by omega) hao
        have fa := N1.out.su.free (off + p)
        have fb := N1.out.su.free (off + (a + o))
        obtain ⟨x, hx⟩ : ∃ x, dk[p]! = x := ⟨_, rfl⟩
        obtain ⟨y, hy⟩ : ∃ y, dk[a + o]! = y := ⟨_, rfl⟩
        rw [hx] at ca hsw
        rw [hy] at cb hsw
        obtain ⟨hsw1, u, hsw2⟩ := hsw
        have HSW := Lib.hid hsw1.drew
        clear hsw1 hx hy
        clear ho1
        subst ho
        have r0 : (0 : Int) ≤ (p : Int) := by omega
        have r1 : (p : Int) < (n : Int) := by omega
        have r2 : (0 : Int) ≤ (a : Int) + (O : Int) := by omega
        have r3 : (a : Int) + (O : Int) < (n : Int) := by omega
        have r4 : ((a : Int) + (O : Int)).toNat = a + O := by omega
        have r5 : IntKind.i64.wrap ((a : Int) + (O : Int)) = (a : Int) + (O : Int) := by rw [IntKind.wrap_i64]; omega
        have hSd : (fun w' : World => w'.cell? ⟨g, off + p, none⟩ = some (.int .u64 (x : Int)) ∧ w'.cell? ⟨g, off + (a + O), none⟩ = some (.int .u64 (y : Int))) _ := ⟨ca, cb⟩
        go_wp2_with (go_at_call 35; (with_reducible refine HN.out.mono ?_); rintro e w5 ⟨rfl, rfl⟩)
        rename_i K hK
        refine wp_heldQ (fun w' : World => w'.cell? ⟨g, off + p, none⟩ = some (.int .u64 (x : Int)) ∧ w'.cell? ⟨g, off + (a + O), none⟩ = some (.int .u64 (y : Int))) 17 hmx ?_
        refine wpAnyK_pure (i := 0) (v := .slice (some ⟨g, off, none⟩) n c) rfl (by kernel_rfl) (by kernel_rfl) (by kernel_rfl) (by decide) (fun _ _ _ h => h) (Or.inl ⟨by rfl, ?_⟩) (.inr hSd) ?_
        · intro w6 _
          go_simp
        simp only [Act.put, List.setIfInBounds_toArray, List.set_cons_zero, List.set_cons_succ, List.getElem_toArray, List.getElem_cons_zero]
        refine wpAnyK_pure (i := 1) (v := .int .i64 (p : Int)) rfl (by kernel_rfl) (by kernel_rfl) (by kernel_rfl) (by decide) (fun _ _ _ h => h) (Or.inl ⟨by rfl, ?_⟩) (.inr hSd) ?_
        · intro w6 _
          go_simp
        simp only [Act.put, List.setIfInBounds_toArray, List.set_cons_zero, List.set_cons_succ, List.getElem_toArray, List.getElem_cons_zero, List.getElem_cons_succ]
        refine wpAnyK_pure (i := 2) (v := .slice (some ⟨g, off, none⟩) n c) rfl (by kernel_rfl) (by kernel_rfl) (by kernel_rfl) (by decide) (fun _ _ _ h => h) (Or.inl ⟨by rfl, ?_⟩) (.inr hSd) ?_
        · intro w6 _
          go_simp
        simp only [Act.put, List.setIfInBounds_toArray, List.set_cons_zero, List.set_cons_succ, List.getElem_toArray, List.getElem_cons_zero, List.getElem_cons_succ]
        refine wpAnyK_pure (i := 3) (v := .int .i64 (a : Int)) rfl (by kernel_rfl) (by kernel_rfl) (by kernel_rfl) (by decide) (fun _ _ _ h => h) (Or.inl ⟨by rfl, ?_⟩) (.inr hSd) ?_
        · intro w6 _
          go_simp
        simp only [Act.put, List.setIfInBounds_toArray, List.set_cons_zero, List.set_cons_succ, List.getElem_toArray, List.getElem_cons_zero, List.getElem_cons_succ]
        refine wpAnyK_pure (i := 4) (v := .int .i64 (O : Int)) rfl (by kernel_rfl) (by kernel_rfl) (by kernel_rfl) (by decide) (fun _ _ _ h => h) (Or.inl ⟨by rfl, ?_⟩) (.inr hSd) ?_
        · intro w6 _
          go_simp
        simp only [Act.put, List.setIfInBounds_toArray, List.set_cons_zero, List.set_cons_succ, List.getElem_toArray, List.getElem_cons_zero, List.getElem_cons_succ]
        refine wpAnyK_pure (i := 5) (v := .int .i64 ((a : Int) + (O : Int))) rfl (by kernel_rfl) (by kernel_rfl) (by kernel_rfl) (by decide) (fun _ _ _ h => h) (Or.inl ⟨by rfl, ?_⟩) (.inr hSd) ?_
        · intro w6 _
          go_simp
        simp only [Act.put, List.setIfInBounds_toArray, List.set_cons_zero, List.set_cons_succ, List.getElem_toArray, List.getElem_cons_zero, List.getElem_cons_succ]
        refine wpAnyK_pure (i := 6) (v := .slice (some ⟨g, off, none⟩) n c) rfl (by kernel_rfl) (by kernel_rfl) (by kernel_rfl) (by decide) (fun _ _ _ h => h) (Or.inl ⟨by rfl, ?_⟩) (.inr hSd) ?_
        · intro w6 _
          go_simp
        simp only [Act.put, List.setIfInBounds_toArray, List.set_cons_zero, List.set_cons_succ, List.getElem_toArray, List.getElem_cons_zero, List.getElem_cons_succ]
        refine wpAnyK_pure (i := 7) (v := .int .i64 (a : Int)) rfl (by kernel_rfl) (by kernel_rfl) (by kernel_rfl) (by decide) (fun _ _ _ h => h) (Or.inl ⟨by rfl, ?_⟩) (.inr hSd) ?_
        · intro w6 _
          go_simp
        simp only [Act.put, List.setIfInBounds_toArray, List.set_cons_zero, List.set_cons_succ, List.getElem_toArray, List.getElem_cons_zero, List.getElem_cons_succ]
        refine wpAnyK_pure (i := 8) (v := .int .i64 (O : Int)) rfl (by kernel_rfl) (by kernel_rfl) (by kernel_rfl) (by decide) (fun _ _ _ h => h) (Or.inl ⟨by rfl, ?_⟩) (.inr hSd) ?_
        · intro w6 _
          go_simp
        simp only [Act.put, List.setIfInBounds_toArray, List.set_cons_zero, List.set_cons_succ, List.getElem_toArray, List.getElem_cons_zero, List.getElem_cons_succ]
        refine wpAnyK_pure (i := 9) (v := .int .i64 ((a : Int) + (O : Int))) rfl (by kernel_rfl) (by kernel_rfl) (by kernel_rfl) (by decide) (fun _ _ _ h => h) (Or.inl ⟨by rfl, ?_⟩) (.inr hSd) ?_
        · intro w6 _
          go_simp
        simp only [Act.put, List.setIfInBounds_toArray, List.set_cons_zero, List.set_cons_succ, List.getElem_toArray, List.getElem_cons_zero, List.getElem_cons_succ]
        refine wpAnyK_pure (i := 10) (v := .pointer (some ⟨g, off + (a + O), none⟩)) rfl (by kernel_rfl) (by kernel_rfl) (by kernel_rfl) (by decide) (fun _ _ _ h => h) (Or.inl ⟨by rfl, ?_⟩) (.inr hSd) ?_
        · intro w6 _
          go_simp
        simp only [Act.put, List.setIfInBounds_toArray, List.set_cons_zero, List.set_cons_succ, List.getElem_toArray, List.getElem_cons_zero, List.getElem_cons_succ]
        refine wpAnyK_take (i := 11) (v := .int .u64 (y : Int)) rfl (by kernel_rfl) (by kernel_rfl) (by kernel_rfl) (by kernel_rfl) (by decide) (by kernel_rfl) (fun _ _ _ h => h) (Or.inl ⟨by rfl, ?_⟩) hSd ?_
        · rintro w6 ⟨k1, k2⟩
          go_simp
        simp only [Act.put, List.setIfInBounds_toArray, List.set_cons_zero, List.set_cons_succ, List.getElem_toArray, List.getElem_cons_zero, List.getElem_cons_succ]
        refine wpAnyK_pure (i := 12) (v := .slice (some ⟨g, off, none⟩) n c) rfl (by kernel_rfl) (by kernel_rfl) (by kernel_rfl) (by decide) (fun _ _ _ h => h) (Or.inl ⟨by rfl, ?_⟩) (.inr hSd) ?_
        · intro w6 _
          go_simp
        simp only [Act.put, List.setIfInBounds_toArray, List.set_cons_zero, List.set_cons_succ, List.getElem_toArray, List.getElem_cons_zero, List.getElem_cons_succ]
        refine wpAnyK_pure (i := 13) (v := .int .i64 (p : Int)) rfl (by kernel_rfl) (by kernel_rfl) (by kernel_rfl) (by decide) (fun _ _ _ h => h) (Or.inl ⟨by rfl, ?_⟩) (.inr hSd) ?_
        · intro w6 _
          go_simp
        simp only [Act.put, List.setIfInBounds_toArray, List.set_cons_zero, List.set_cons_succ, List.getElem_toArray, List.getElem_cons_zero, List.getElem_cons_succ]
        refine wpAnyK_pure (i := 14) (v := .pointer (some ⟨g, off + p, none⟩)) rfl (by kernel_rfl) (by kernel_rfl) (by kernel_rfl) (by decide) (fun _ _ _ h => h) (Or.inl ⟨by rfl, ?_⟩) (.inr hSd) ?_
        · intro w6 _
          go_simp
        simp only [Act.put, List.setIfInBounds_toArray, List.set_cons_zero, List.set_cons_succ, List.getElem_toArray, List.getElem_cons_zero, List.getElem_cons_succ]
        refine wpAnyK_take (i := 15) (v := .int .u64 (x : Int)) rfl (by kernel_rfl) (by kernel_rfl) (by kernel_rfl) (by kernel_rfl) (by decide) (by kernel_rfl) (fun _ _ _ h => h) (Or.inl ⟨by rfl, ?_⟩) hSd ?_
        · rintro w6 ⟨k1, k2⟩
          go_simp
        simp only [Act.put, List.setIfInBounds_toArray, List.set_cons_zero, List.set_cons_succ, List.getElem_toArray, List.getElem_cons_zero, List.getElem_cons_succ]
        refine wpAnyK_pure (i := 16) (v := .pointer (some ⟨g, off + p, none⟩)) rfl (by kernel_rfl) (by kernel_rfl) (by kernel_rfl) (by decide) (fun _ _ _ h => h) (Or.inl ⟨by rfl, ?_⟩) (.inr hSd) ?_
        · intro w6 _
          go_simp
        simp only [Act.put, List.setIfInBounds_toArray, List.set_cons_zero, List.set_cons_succ, List.getElem_toArray, List.getElem_cons_zero, List.getElem_cons_succ]
        refine wpAnyK_one (i := 17) (by kernel_rfl) rfl (fun K5 hK5 => ?_)
        go_simp
        refine hK5.out _ _ (.inl (by kernel_rfl)) ?_
        clear hK5 K5
        refine wpAnyK_pure (i := 18) (v := .pointer (some ⟨g, off + (a + O), none⟩)) rfl (by kernel_rfl) (by kernel_rfl) (by kernel_rfl) (by decide) (fun _ _ _ h => h) (Or.inl ⟨by rfl, ?_⟩) (.inl (by kernel_rfl)) ?_
        · intro w6 _
          go_simp
        simp only [Act.put, List.setIfInBounds_toArray, List.set_cons_zero, List.set_cons_succ, List.getElem_toArray, List.getElem_cons_zero, List.getElem_cons_succ]
        refine wpAnyK_one (i := 19) (by kernel_rfl) rfl (fun K5 hK5 => ?_)
        go_simp
        refine hK5.out _ _ (.inl (by kernel_rfl)) ?_
        clear hK5 K5
        refine wpAnyK_done (by kernel_rfl) ?_ _
        refine hK _ _ ?_
        go_wp2
        go_roundw
        case rel => exact ⟨t + 1, _, _, by go_num, by omega, HST.out, by rw [HX.out]; exact HSW.out⟩
        case measure => simp [intOf]; omega
    · obtain rfl : t = 3 := by omega
      have g1 : ¬ (p : Int) ≤ ((i0 + 2 : Nat) : Int) := by omega
      go_wp2
      go_end0
      have hr : breakPatterns d a b = dk := by rw [HB.out, K1.out]
      rw [hr]
      exact ⟨rfl, K2.out.su⟩
end Go.Proofs.Ytlfmmmgdilencaa
end
