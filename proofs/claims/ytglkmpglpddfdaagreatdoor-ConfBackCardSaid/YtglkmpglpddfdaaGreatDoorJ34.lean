import Derived.Test.YtglkmpglpddfdaaGreatDoorJ32
import Derived.Test.YtglkmpglpddfdaaGreatDoorJShsa
import Derived.Shelf.SlSortFunc.Xorshift
import Derived.Ground.GgsProg
import Derived.Laws.Bits64b
import Derived.Sort.LotD1
import Derived.Sort.LotD5
import Derived.Shelf.GgSortFunc.Tiny
import Derived.Lib.AppendIntMem
/- Of a claim's texts, joined: Srg Cpt Srb Src. No statement but in the last. -/
section
namespace Go.Proofs.YtglkmpglpddfdaaGreatDoor
open Go.RowKit Go.Sort
set_option linter.unusedVariables false

theorem nextPow_any (n : Nat) (hn : n < 4611686018427387904) (w : World) : Calls Tryz.prog 120 #[.int .i64 (n : Int)] w fun e w' => e = .returned (.int .u64 ((1 <<< bitsLen n : Nat) : Int)) ∧ w' = w :=
  Any.nextPowerOfTwo { Tryz.sa6 with } n hn w
theorem next_any (Q X : Nat) (hX : X < 18446744073709551616) (w : World) (hc : w.cell? ⟨Q, 0, none⟩ = some (.int .u64 X)) (hf : w.frozen? ⟨Q, 0, none⟩ = false) :
    Calls Tryz.prog 121 #[.pointer (some ⟨Q, 0, none⟩)] w fun e w' => e = .returned (.int .u64 (xorNextN X : Nat)) ∧ w' = (w.setCell ⟨Q, 0, none⟩ (.int .u64 (xorNextN X : Nat))).drewN 3 :=
  Any.xorshift_Next { Tryz.sa6 with } Q 0 X hX w hc hf
section
variable {α : Type} [Inhabited α] {lt : α → α → Bool} {I : Array α → World → Prop} {blk n low g sf : Nat} {lb sb : Array Value}
def bpI (a L M i0 : Nat) (d : Array α) : Nat → UInt64 × Array α
  | 0 => (UInt64.ofNat L, d)
  | t + 1 => breakStep a L M (bpI a L M i0 d t) (i0 + t)
theorem bp_eq (a L : Nat) (d : Array α) (h : 8 ≤ L) : breakPatterns d a (a + L) = (bpI a L (1 <<< bitsLen L) (a + L / 4 * 2 - 1) d 3).2 := by
  unfold breakPatterns
  simp only [Nat.add_sub_cancel_left]
  rw [if_pos h]
  rfl
theorem SS.away {W w : World} {d : Array α} (S : Srt lt I blk n low g sf lb sb) (h : SS I blk g sf lb sb W d w) {Q : Nat} (hW : low ≤ W.heap.size) (hQ : W.heap.size < Q) (u : Value) (k : Nat) : SS I blk g sf lb sb W d ((w.setCell ⟨Q, 0, none⟩ u).drewN k) := by
  have h1 : SS I blk g sf lb sb W d (w.setCell ⟨Q, 0, none⟩ u) :=
    ⟨S.away _ _ _ _ h.inv (by omega), ⟨h.gr.os, h.gr.tape, h.gr.output, by have := h.gr.size; simp [World.setCell]; exact this, fun i hi hr => (Below.heap_setCell w ⟨Q, 0, none⟩ u i (by show i ≠ Q; omega)).trans (h.gr.block i hi hr)⟩, h.box.away (p := ⟨Q, 0, none⟩) (by show W.heap.size ≠ Q; omega) u, h.low⟩
  exact h1.below S ⟨rfl, rfl, rfl, Nat.le_refl _, fun _ _ => rfl⟩
theorem SS.swap2 {W w : World} {d : Array α} (S : Srt lt I blk n low g sf lb sb) (h : SS I blk g sf lb sb W d w) (i j : Nat) (hi : i < n) (hj : j < n) :
    ∃ w', (callFunc sf (#[.int .i64 (i : Int), .int .i64 (j : Int)] ++ sb)).run Tryz.prog w = .ok (.value (.tuple #[])) w' ∧ SS I blk g sf lb sb W (swp d i j) w' ∧ w.grownBy w' (some blk) := by
  obtain ⟨w', h1, h2, h3⟩ := S.swap d w i j h.inv hi hj
  exact ⟨w', h1, ⟨h2, gb_trans h.gr h3, gb_box h.box h3 h.low, h.low⟩, h3⟩
set_option maxRecDepth 100000 in
set_option maxHeartbeats 8000000 in
theorem breakPat_any (S : Srt lt I blk n low g sf lb sb) (a b : Nat) (d : Array α) (W : World) (hI : I d W) (h8 : a + 8 ≤ b) (hb : b ≤ n) :
    Calls Tryz.prog 97 #[.agg #[.func (.func g) #[] lb, .func (.func sf) #[] sb], .int .i64 (a : Int), .int .i64 (b : Int)] W (SrtEnd I blk (.tuple #[]) (breakPatterns d a b) W) := by
  have HS := Lib.hid S
  have hmost := S.most
  have hlow := S.high d W hI
  obtain ⟨L, hL⟩ : ∃ L, b - a = L := ⟨_, rfl⟩
  have hbL : b = a + L := by omega
  obtain ⟨M, hM⟩ : ∃ M : Nat, 1 <<< bitsLen L = M := ⟨_, rfl⟩
  obtain ⟨q, hq⟩ : ∃ q, L / 4 = q := ⟨_, rfl⟩
  obtain ⟨i0, hi0⟩ : ∃ i0, a + q * 2 - 1 = i0 := ⟨_, rfl⟩
  have HB : Hid (breakPatterns d a b = (bpI a L M i0 d 3).2) := Lib.hid (by rw [hbL, bp_eq a L d (by omega), hM, hq, hi0])
  have hM1 : 1 ≤ M := by rw [← hM, Nat.one_shiftLeft]; exact Nat.two_pow_pos _
  have hM2 : M ≤ 2 * L := by rw [← hM, Nat.one_shiftLeft]; exact two_pow_bitsLen_le (by omega)
  have HNP := Lib.hid (fun w => hM ▸ nextPow_any L (by omega) w)
  have hm1 : (b : Int) - (a : Int) = (L : Int) := by omega
  have hm8 : (8 : Int) ≤ (L : Int) := by omega
  have hq1 : (L : Int).tdiv 4 = (q : Int) := by rw [Int.tdiv_eq_ediv_of_nonneg (by omega)]; omega
  have hq3 : (L : Int) / 4 = (q : Int) := by omega
  have hq2 : q * 4 ≤ L := by omega
  have hq4 : 2 ≤ q := by omega
  have hj0 : (a : Int) + (q : Int) * 2 - 1 = (i0 : Int) := by omega
  have hj1 : (a : Int) + (q : Int) * 2 + 1 = ((i0 + 2 : Nat) : Int) := by omega
  have hi2 : i0 + 2 < b := by omega
  have hal : a + L ≤ n := by omega
  have hs1 : (W.alloc (.cells #[.func (.func g) #[] lb, .func (.func sf) #[] sb] 92)).heap.size = W.heap.size + 1 := by simp
  have H0 : Hid (SS I blk g sf lb sb W d ((W.alloc (.cells #[.func (.func g) #[] lb, .func (.func sf) #[] sb] 92)).alloc (.cells #[.int .u64 (L : Int)] 148))) := Lib.hid ((SS.start S hI).below S ((Below.refl _ _).alloc (Nat.le_refl _) _))
  have HQ : Hid (Has ((W.alloc (.cells #[.func (.func g) #[] lb, .func (.func sf) #[] sb] 92)).alloc (.cells #[.int .u64 (L : Int)] 148)) (W.heap.size + 1) 148 #[.int .u64 (L : Int)]) := Lib.hid (by
    rw [← hs1]
    exact Has.made _ _ _)
  have hLu : (UInt64.ofNat L).toNat = L := by simp; omega
  have HLU := Lib.hid hLu
  clear S hI hL hM hq hi0 hbL hs1 hLu
  go_enter Tryz.func97, Tryz.ntmps97
  go_wp2_with (go_at_call 120; (with_reducible refine (HNP.out _).mono ?_); rintro e w5 ⟨rfl, rfl⟩)
  go_loopw [9] (fun vi wr => ∃ (t : Nat) (r : UInt64) (dk : Array α), vi = .int .i64 ((i0 + t : Nat) : Int) ∧ t ≤ 3 ∧ bpI a L M i0 d t = (r, dk) ∧ SS I blk g sf lb sb W dk wr ∧ Has wr (W.heap.size + 1) 148 #[.int .u64 (r.toNat : Int)]) (fun vi _ => i0 + 3 - (intOf vi).toNat)
  case atStart => exact ⟨0, _, d, rfl, by omega, rfl, H0.out, by rw [HLU.out]; exact HQ.out⟩
  case round =>
    obtain ⟨t, r, dk, rfl, ht, h1, h2, h3⟩ := hrel
    have K1 := Lib.hid h1
    have K2 := Lib.hid h2
    have K3 := Lib.hid h3
    clear h1 h2 h3
    obtain ⟨x, hx⟩ : ∃ x, i0 + t = x := ⟨_, rfl⟩
    rw [hx]
    by_cases ht3 : t < 3
    · have g1 : (x : Int) ≤ ((i0 + 2 : Nat) : Int) := by omega
      obtain ⟨R, hR⟩ : ∃ R, r.toNat = R := ⟨_, rfl⟩
      have lR : R < 18446744073709551616 := by rw [← hR]; exact r.toNat_lt
      rw [hR] at K3
      obtain ⟨R', hR'⟩ : ∃ R', xorNextN R = R' := ⟨_, rfl⟩
      have lR' : R' < 18446744073709551616 := by rw [← hR']; exact xorNextN_lt R lR
      have HN := Lib.hid (hR' ▸ next_any (W.heap.size + 1) R lR wr K3.out.cell0 (K3.out.free 0))
      obtain ⟨O, hO⟩ : ∃ O, R' &&& (M - 1) = O := ⟨_, rfl⟩
      have lO : O ≤ M - 1 := by rw [← hO]; exact Nat.and_le_right
      have eAnd : bits .and .u64 (R' : Int) ((M : Int) - 1) = (O : Int) := by
        rw [show ((M : Int) - 1) = ((M - 1 : Nat) : Int) by omega, bits_and_u64_nat _ _ lR' (by omega), hO]
      have N1 : Hid (SS I blk g sf lb sb W dk ((wr.setCell ⟨W.heap.size + 1, 0, none⟩ (.int .u64 (R' : Int))).drewN 3)) := Lib.hid (K2.out.away HS.out hlow (by omega) _ 3)
      have N3 : Hid (Has ((wr.setCell ⟨W.heap.size + 1, 0, none⟩ (.int .u64 (R' : Int))).drewN 3) (W.heap.size + 1) 148 #[.int .u64 (R' : Int)]) := Lib.hid ((K3.out.store 0 (.int .u64 (R' : Int))).drewN 3)
      have HX : Hid ((xorNext r).toNat = R') := Lib.hid (by rw [xorNext_toNat, hR, hR'])
      have HST : Hid (bpI a L M i0 d (t + 1) = (xorNext r, swp dk x (a + if O ≥ L then O - L else O))) := Lib.hid (by
        show breakStep a L M (bpI a L M i0 d t) (i0 + t) = _
        rw [K1.out]
        unfold breakStep
        simp only [HX.out, hO, hx])
      generalize hw7 : (wr.setCell ⟨W.heap.size + 1, 0, none⟩ (.int .u64 (R' : Int))).drewN 3 = w7 at HN N1 N3
      have c1 := N1.out.box.cell1
      clear hR hR' hO hw7
      by_cases hOL : L ≤ O
      · have g2 : (L : Int) ≤ (O : Int) := by omega
        rw [if_pos hOL] at HST
        go_wp2_with (go_at_call 121; (with_reducible refine HN.out.mono ?_); rintro e w5 ⟨rfl, rfl⟩)
        obtain ⟨w6, hs, h6, h7⟩ := N1.out.swap2 HS.out x (a + (O - L)) (by omega) (by omega)
        rw [show ((a + (O - L) : Nat) : Int) = (a : Int) + ((O : Int) - (L : Int)) by omega] at hs
        have M1 := Lib.hid h6
        have M2 := Lib.hid (gb_box N3.out h7 (Nat.lt_succ_of_lt N1.out.low))
        clear h6 h7
        rw [hs, Oper.upon_value]
        go_wp2
        go_roundw
        case rel => exact ⟨t + 1, _, _, by go_num, by omega, HST.out, M1.out, by rw [HX.out]; exact M2.out⟩
        case measure => simp [intOf]; omega
      · have g2 : ¬ (L : Int) ≤ (O : Int) := by omega
        rw [if_neg hOL] at HST
        go_wp2_with (go_at_call 121; (with_reducible refine HN.out.mono ?_); rintro e w5 ⟨rfl, rfl⟩)
        obtain ⟨w6, hs, h6, h7⟩ := N1.out.swap2 HS.out x (a + O) (by omega) (by omega)
        rw [show ((a + O : Nat) : Int) = (a : Int) + (O : Int) by omega] at hs
        have M1 := Lib.hid h6
        have M2 := Lib.hid (gb_box N3.out h7 (Nat.lt_succ_of_lt N1.out.low))
        clear h6 h7
        rw [hs, Oper.upon_value]
        go_wp2
        go_roundw
        case rel => exact ⟨t + 1, _, _, by go_num, by omega, HST.out, M1.out, by rw [HX.out]; exact M2.out⟩
        case measure => simp [intOf]; omega
    · obtain rfl : t = 3 := by omega
      have g1 : ¬ (x : Int) ≤ ((i0 + 2 : Nat) : Int) := by omega
      go_wp2
      go_end0
      have hr : breakPatterns d a b = dk := by rw [HB.out, K1.out]
      rw [hr]
      exact K2.out.done (.tuple #[])
end

end Go.Proofs.YtglkmpglpddfdaaGreatDoor
end

section
namespace Go.Proofs.YtglkmpglpddfdaaGreatDoor
open Go.RowKit Go.Sort
set_option linter.unusedVariables false

noncomputable def giT : TypeInfo := (Tryz.prog.info? 26).get (by kernel_rfl)
noncomputable def giE : TypeInfo := (Tryz.prog.info? 45).get (by kernel_rfl)
theorem sortC_one : SortC 1 := by
  intro B base vn vu vq v l w ht hl hB ho hb
  obtain ⟨A, k, rfl⟩ := own_sl ho
  have hK : ∀ n, n ≤ 1 → Lib.swapperK n giE 25 = n + 1 := by
    intro n hn
    rcases Nat.eq_zero_or_pos n with h | h
    · subst h; simp [Lib.swapperK]
    · obtain rfl : n = 1 := by omega
      simp [Lib.swapperK]
  have hc : compG l = l.foldl insG [] := by
    match l, hl with
    | [], _ => rfl
    | [x], _ => rfl
  have h0 := fun (n : Nat) (hn : n ≤ 1) (f : Nat) (hf : Tryz.prog.funcs.findIdx? (·.name == "internal/reflectlite" ++ ".Swapper$" ++ toString (Lib.swapperK n giE 25)) = some f) => Any.sort_Slice_tiny Tryz.sa6 26 45 giT giE (by kernel_rfl) (by kernel_rfl) (by kernel_rfl) (by kernel_rfl) 25 (fun _ => by kernel_rfl) A n k hn f hf (.func 20) #[] #[.pointer (some ⟨B, 0, none⟩)] w
  have h1 : Calls Tryz.prog 19 #[.iface 26 (.slice A l.length k), .func (.func 20) #[] #[.pointer (some ⟨B, 0, none⟩)]] w fun e w' => e = .returned (.tuple #[]) ∧ ∃ os, w' = grow w os := by
    rcases Nat.eq_zero_or_pos l.length with h | h
    · rw [h]
      exact h0 0 (by omega) 84 (by rw [hK 0 (by omega)]; kernel_rfl)
    · have h1 : l.length = 1 := by omega
      rw [h1]
      exact h0 1 (by omega) 85 (by rw [hK 1 (by omega)]; kernel_rfl)
  refine h1.mono ?_
  rintro e w' ⟨rfl, os, rfl⟩
  have hbel : Below w.heap.size w (grow w os) := Lib.below_grow _ w (Nat.le_refl _) 0 os
  exact ⟨rfl, ⟨hbel.os, hbel.tape, hbel.output, hbel.size, fun i hi _ => hbel.block i hi⟩, l, rfl, hc, own_bel ho hbel⟩

end Go.Proofs.YtglkmpglpddfdaaGreatDoor
end

section
namespace Go.Proofs.YtglkmpglpddfdaaGreatDoor
open Go.RowKit Go.Sort
set_option linter.unusedVariables false

section
variable {α : Type} [Inhabited α] {lt : α → α → Bool} {I : Array α → World → Prop} {blk n low g sf : Nat} {lb sb : Array Value}
set_option maxRecDepth 100000 in
set_option maxHeartbeats 4000000 in
theorem siftDown_any (S : Srt lt I blk n low g sf lb sb) (lo hi first : Nat) (d : Array α) (W : World) (hI : I d W) (hlo : lo ≤ n) (hh : first + hi ≤ n) :
    Calls Tryz.prog 119 #[.agg #[.func (.func g) #[] lb, .func (.func sf) #[] sb], .int .i64 (lo : Int), .int .i64 (hi : Int), .int .i64 (first : Int)] W (SrtEnd I blk (.tuple #[]) (siftDown lt hi first lo d) W) := by
  have HS := Lib.hid S
  have hmost := S.most
  have eg := S.enters
  have H0 := Lib.hid (SS.start S hI)
  clear S hI
  go_enter Tryz.func119, Tryz.ntmps119
  go_wp2
  go_loopw [8] (fun vr wr => ∃ (r : Nat) (dk : Array α), vr = .int .i64 (r : Int) ∧ r ≤ n ∧ SS I blk g sf lb sb W dk wr ∧ siftDown lt hi first r dk = siftDown lt hi first lo d) (fun vr _ => n + 1 - (intOf vr).toNat)
  case atStart => exact ⟨lo, d, rfl, hlo, H0.out, rfl⟩
  case round =>
    obtain ⟨r, dk, rfl, hrn, h1, h4⟩ := hrel
    have K1 := Lib.hid h1
    have K4 := Lib.hid h4
    have c0 := h1.box.cell0
    clear h1 h4
    by_cases hc : 2 * r + 1 < hi
    · have q1 : ¬ (hi : Int) ≤ 2 * (r : Int) + 1 := by omega
      by_cases h1 : 2 * r + 2 < hi
      · have q2 : 2 * (r : Int) + 1 + 1 < (hi : Int) := by omega
        have hl := K1.out.less HS.out (first + (2 * r + 1)) (first + (2 * r + 1) + 1) (by omega) (by omega)
        rw [show ((first + (2 * r + 1) : Nat) : Int) = (first : Int) + (2 * (r : Int) + 1) by omega, show ((first + (2 * r + 1) + 1 : Nat) : Int) = (first : Int) + (2 * (r : Int) + 1) + 1 by omega] at hl
        cases hv : lt dk[first + (2 * r + 1)]! dk[first + (2 * r + 1) + 1]!
        · rw [hv] at hl
          have hv1 := hv
          have hl2 := fun w5 (h5 : SS I blk g sf lb sb W dk w5) => h5.less HS.out (first + r) (first + (2 * r + 1)) (by omega) (by omega)
          rw [show ((first + r : Nat) : Int) = (first : Int) + (r : Int) by omega, show ((first + (2 * r + 1) : Nat) : Int) = (first : Int) + (2 * (r : Int) + 1) by omega] at hl2
          cases hv2 : lt dk[first + r]! dk[first + (2 * r + 1)]!
          · rw [hv2] at hl2
            have HL2 := Lib.hid hl2
            have HE : Hid (siftDown lt hi first r dk = dk) := Lib.hid (by rw [siftDown.eq_def]; simp [hv2, hv1]; try omega)
            clear hl2 hv2
            go_wp2_with (first
              | (go_at_fn g; refine hl.mono ?_; rintro e w5 ⟨rfl, h5⟩; have c5 := h5.box.cell0; have L1 := Lib.hid h5; clear h5)
              | (go_at_fn g; refine (HL2.out _ L1.out).mono ?_; rintro e w6 ⟨rfl, h5⟩; have L2 := Lib.hid h5; clear h5))
            go_end0
            have := L2.out.done (.tuple #[])
            rwa [← HE.out, K4.out] at this
          · rw [hv2] at hl2
            have HL2 := Lib.hid hl2
            have HE : Hid (siftDown lt hi first r dk = siftDown lt hi first (2 * r + 1) (swp dk (first + r) (first + (2 * r + 1)))) := Lib.hid (by
              conv => lhs; rw [siftDown.eq_def]
              have e1 : ¬ hi ≤ 2 * r + 1 := by omega
              simp [e1, hv2, hv1]
              try omega)
            clear hl2 hv2
            go_wp2_with (first
              | (go_at_fn g; refine hl.mono ?_; rintro e w5 ⟨rfl, h5⟩; have c5 := h5.box.cell0; have L1 := Lib.hid h5; clear h5)
              | (go_at_fn g; refine (HL2.out _ L1.out).mono ?_; rintro e w6 ⟨rfl, h5⟩; have c1 := h5.box.cell1; have L2 := Lib.hid h5; clear h5))
            obtain ⟨w7, hs, h6⟩ := L2.out.swap HS.out (first + r) (first + (2 * r + 1)) (by omega) (by omega)
            rw [show ((first + r : Nat) : Int) = (first : Int) + (r : Int) by omega, show ((first + (2 * r + 1) : Nat) : Int) = (first : Int) + (2 * (r : Int) + 1) by omega] at hs
            have M1 := Lib.hid h6
            clear h6
            rw [hs, Oper.upon_value]
            go_wp2
            go_roundw
            case rel => exact ⟨2 * r + 1, _, by go_num, by omega, M1.out, by rw [← K4.out, HE.out]⟩
            case measure => simp [intOf]; omega
        · rw [hv] at hl
          have hv1 := hv
          have hl2 := fun w5 (h5 : SS I blk g sf lb sb W dk w5) => h5.less HS.out (first + r) (first + (2 * r + 2)) (by omega) (by omega)
          rw [show ((first + r : Nat) : Int) = (first : Int) + (r : Int) by omega, show ((first + (2 * r + 2) : Nat) : Int) = (first : Int) + (2 * (r : Int) + 1 + 1) by omega] at hl2
          cases hv2 : lt dk[first + r]! dk[first + (2 * r + 2)]!
          · rw [hv2] at hl2
            have HL2 := Lib.hid hl2
            have HE : Hid (siftDown lt hi first r dk = dk) := Lib.hid (by rw [siftDown.eq_def]; simp [hv2, hv1, h1]; try omega)
            clear hl2 hv2
            go_wp2_with (first
              | (go_at_fn g; refine hl.mono ?_; rintro e w5 ⟨rfl, h5⟩; have c5 := h5.box.cell0; have L1 := Lib.hid h5; clear h5)
              | (go_at_fn g; refine (HL2.out _ L1.out).mono ?_; rintro e w6 ⟨rfl, h5⟩; have L2 := Lib.hid h5; clear h5))
            go_end0
            have := L2.out.done (.tuple #[])
            rwa [← HE.out, K4.out] at this
          · rw [hv2] at hl2
            have HL2 := Lib.hid hl2
            have HE : Hid (siftDown lt hi first r dk = siftDown lt hi first (2 * r + 2) (swp dk (first + r) (first + (2 * r + 2)))) := Lib.hid (by
              conv => lhs; rw [siftDown.eq_def]
              have e1 : ¬ hi ≤ 2 * r + 1 := by omega
              simp [e1, hv2, hv1, h1]
              try omega)
            clear hl2 hv2
            go_wp2_with (first
              | (go_at_fn g; refine hl.mono ?_; rintro e w5 ⟨rfl, h5⟩; have c5 := h5.box.cell0; have L1 := Lib.hid h5; clear h5)
              | (go_at_fn g; refine (HL2.out _ L1.out).mono ?_; rintro e w6 ⟨rfl, h5⟩; have c1 := h5.box.cell1; have L2 := Lib.hid h5; clear h5))
            obtain ⟨w7, hs, h6⟩ := L2.out.swap HS.out (first + r) (first + (2 * r + 2)) (by omega) (by omega)
            rw [show ((first + r : Nat) : Int) = (first : Int) + (r : Int) by omega, show ((first + (2 * r + 2) : Nat) : Int) = (first : Int) + (2 * (r : Int) + 1 + 1) by omega] at hs
            have M1 := Lib.hid h6
            clear h6
            rw [hs, Oper.upon_value]
            go_wp2
            go_roundw
            case rel => exact ⟨2 * r + 2, _, by go_num, by omega, M1.out, by rw [← K4.out, HE.out]⟩
            case measure => simp [intOf]; omega
      · have q2 : ¬ 2 * (r : Int) + 1 + 1 < (hi : Int) := by omega
        have hl2 := fun w5 (h5 : SS I blk g sf lb sb W dk w5) => h5.less HS.out (first + r) (first + (2 * r + 1)) (by omega) (by omega)
        rw [show ((first + r : Nat) : Int) = (first : Int) + (r : Int) by omega, show ((first + (2 * r + 1) : Nat) : Int) = (first : Int) + (2 * (r : Int) + 1) by omega] at hl2
        cases hv2 : lt dk[first + r]! dk[first + (2 * r + 1)]!
        · rw [hv2] at hl2
          have HL2 := Lib.hid hl2
          have HE : Hid (siftDown lt hi first r dk = dk) := Lib.hid (by rw [siftDown.eq_def]; simp [hv2, h1]; try omega)
          clear hl2 hv2
          go_wp2_with (go_at_fn g; refine (HL2.out _ K1.out).mono ?_; rintro e w6 ⟨rfl, h5⟩; have L2 := Lib.hid h5; clear h5)
          go_end0
          have := L2.out.done (.tuple #[])
          rwa [← HE.out, K4.out] at this
        · rw [hv2] at hl2
          have HL2 := Lib.hid hl2
          have HE : Hid (siftDown lt hi first r dk = siftDown lt hi first (2 * r + 1) (swp dk (first + r) (first + (2 * r + 1)))) := Lib.hid (by
            conv => lhs; rw [siftDown.eq_def]
            have e1 : ¬ hi ≤ 2 * r + 1 := by omega
            simp [e1, hv2, h1]
            try omega)
          clear hl2 hv2
          go_wp2_with (go_at_fn g; refine (HL2.out _ K1.out).mono ?_; rintro e w6 ⟨rfl, h5⟩; have c1 := h5.box.cell1; have L2 := Lib.hid h5; clear h5)
          obtain ⟨w7, hs, h6⟩ := L2.out.swap HS.out (first + r) (first + (2 * r + 1)) (by omega) (by omega)
          rw [show ((first + r : Nat) : Int) = (first : Int) + (r : Int) by omega, show ((first + (2 * r + 1) : Nat) : Int) = (first : Int) + (2 * (r : Int) + 1) by omega] at hs
          have M1 := Lib.hid h6
          clear h6
          rw [hs, Oper.upon_value]
          go_wp2
          go_roundw
          case rel => exact ⟨2 * r + 1, _, by go_num, by omega, M1.out, by rw [← K4.out, HE.out]⟩
          case measure => simp [intOf]; omega
    · have q1 : (hi : Int) ≤ 2 * (r : Int) + 1 := by omega
      have HE : Hid (siftDown lt hi first r dk = dk) := Lib.hid (by rw [siftDown.eq_def]; simp; omega)
      go_wp2
      go_end0
      have := K1.out.done (.tuple #[])
      rwa [← HE.out, K4.out] at this
theorem heapBuild_more {hi first k : Nat} {d : Array α} : heapBuild lt hi first (k + 1) d = heapBuild lt hi first k (siftDown lt hi first k d) := rfl
theorem heapPop_more {first k : Nat} {d : Array α} : heapPop lt first (k + 1) d = heapPop lt first k (siftDown lt k first 0 (swp d first (first + k))) := rfl
set_option maxRecDepth 100000 in
set_option maxHeartbeats 4000000 in
theorem heapSort_any (S : Srt lt I blk n low g sf lb sb) (a b : Nat) (d : Array α) (W : World) (hI : I d W) (hab : a < b) (hb : b ≤ n) :
    Calls Tryz.prog 96 #[.agg #[.func (.func g) #[] lb, .func (.func sf) #[] sb], .int .i64 (a : Int), .int .i64 (b : Int)] W (SrtEnd I blk (.tuple #[]) (heapSort lt d a b) W) := by
  have HS := Lib.hid S
  have hmost := S.most
  have H0 := Lib.hid (SS.start S hI)
  clear S hI
  obtain ⟨m, hm⟩ : ∃ m, b - a = m := ⟨_, rfl⟩
  have hm1 : (b : Int) - (a : Int) = (m : Int) := by omega
  have hm2 : ((m : Int) - 1).tdiv 2 = (((m - 1) / 2 : Nat) : Int) := by rw [Int.tdiv_eq_ediv_of_nonneg (by omega)]; omega
  have hm0 : 1 ≤ m := by omega
  have ham : a + m ≤ n := by omega
  have HH : Hid (heapSort lt d a b = heapPop lt a m (heapBuild lt m a ((m - 1) / 2 + 1) d)) := Lib.hid (by unfold heapSort; rw [hm])
  clear hm
  go_enter Tryz.func96, Tryz.ntmps96
  go_wp2
  go_loopw [9] (fun vi wr => ∃ (z : Int) (k : Nat) (dk : Array α), vi = .int .i64 z ∧ z + 1 = (k : Int) ∧ k ≤ m ∧ SS I blk g sf lb sb W dk wr ∧ heapBuild lt m a k dk = heapBuild lt m a ((m - 1) / 2 + 1) d) (fun vi _ => (intOf vi + 1).toNat)
  case atStart => exact ⟨_, (m - 1) / 2 + 1, d, rfl, by omega, by omega, H0.out, rfl⟩
  case round =>
    obtain ⟨z, k, dk, rfl, hz, hk, h1, h4⟩ := hrel
    have K1 := Lib.hid h1
    have K4 := Lib.hid h4
    have c0 := h1.box.cell0
    have c1 := h1.box.cell1
    clear h1 h4
    by_cases hz0 : z < 0
    · obtain rfl : k = 0 := by omega
      have K5 : Hid (dk = heapBuild lt m a ((m - 1) / 2 + 1) d) := Lib.hid K4.out
      clear c0 c1
      obtain ⟨wo, hwo⟩ : ∃ wo : World, wo = wr := ⟨_, rfl⟩
      subst hwo
      go_wp2
      go_loopw [10] (fun vi wr => ∃ (z : Int) (k : Nat) (dj : Array α), vi = .int .i64 z ∧ z + 1 = (k : Int) ∧ k ≤ m ∧ SS I blk g sf lb sb W dj wr ∧ heapPop lt a k dj = heapPop lt a m dk) (fun vi _ => (intOf vi + 1).toNat)
      case atStart => exact ⟨_, m, dk, rfl, by omega, Nat.le_refl _, K1.out, rfl⟩
      case round =>
        obtain ⟨y, j, dj, rfl, hy, hj, h1, h4⟩ := hrel
        have M1 := Lib.hid h1
        have M4 := Lib.hid h4
        have c0 := h1.box.cell0
        have c1 := h1.box.cell1
        clear h1 h4
        by_cases hy0 : y < 0
        · obtain rfl : j = 0 := by omega
          go_wp2
          go_end0
          have := M1.out.done (.tuple #[])
          rwa [show dj = heapSort lt d a b from by rw [HH.out, ← K5.out]; exact M4.out] at this
        · obtain ⟨q, rfl⟩ : ∃ q : Nat, y = (q : Int) := ⟨y.toNat, by omega⟩
          obtain rfl : j = q + 1 := by omega
          have q0 : (0 : Int) ≤ (q : Int) := by omega
          go_wp2
          obtain ⟨w7, hs, h6⟩ := M1.out.swap HS.out a (a + q) (by omega) (by omega)
          rw [show ((a + q : Nat) : Int) = (a : Int) + (q : Int) by omega] at hs
          have c2 := h6.box.cell0
          have c3 := h6.box.cell1
          have hc := siftDown_any HS.out 0 q a (swp dj a (a + q)) w7 h6.inv (by omega) (by omega)
          rw [show (((0 : Nat) : Int)) = 0 from rfl] at hc
          have HC := Lib.hid hc
          have N1 := Lib.hid h6
          clear h6 hc
          rw [hs, Oper.upon_value]
          go_wp2_with (go_at_call 119; (with_reducible refine HC.out.mono ?_); intro e w8 h8; obtain ⟨rfl, h9⟩ := N1.out.call h8; have R1 := Lib.hid h9; clear h8 h9)
          go_roundw
          case rel => exact ⟨_, q, _, rfl, by omega, by omega, R1.out, by rw [← M4.out, heapPop_more]⟩
          case measure => simp [intOf]
    · obtain ⟨q, rfl⟩ : ∃ q : Nat, z = (q : Int) := ⟨z.toNat, by omega⟩
      obtain rfl : k = q + 1 := by omega
      have q0 : (0 : Int) ≤ (q : Int) := by omega
      have hc := siftDown_any HS.out q m a dk wr K1.out.inv (by omega) ham
      have HC := Lib.hid hc
      clear hc
      go_wp2_with (go_at_call 119; (with_reducible refine HC.out.mono ?_); intro e w8 h8; obtain ⟨rfl, h9⟩ := K1.out.call h8; have R1 := Lib.hid h9; clear h8 h9)
      go_roundw
      case rel => exact ⟨_, q, _, rfl, by omega, by omega, R1.out, by rw [← K4.out, heapBuild_more]⟩
      case measure => simp [intOf]
end

end Go.Proofs.YtglkmpglpddfdaaGreatDoor
end

section
namespace Go.Proofs.YtglkmpglpddfdaaGreatDoor
open Go.RowKit Go.Sort
set_option linter.unusedVariables false

section
variable {α : Type} [Inhabited α] {lt : α → α → Bool} {I : Array α → World → Prop} {blk n low g sf : Nat} {lb sb : Array Value}
theorem gb_set (w : World) (Q : Nat) (u : Value) : w.grownBy (w.setCell ⟨Q, 0, none⟩ u) (some Q) :=
  ⟨rfl, rfl, rfl, by simp [World.setCell], fun i _ hr => Below.heap_setCell w ⟨Q, 0, none⟩ u i (fun e => hr (by rw [e]))⟩
structure Cn (I : Array α → World → Prop) (Q : Nat) (d : Array α) (W : World) (s : Nat) (w : World) : Prop where
  inv : I d w
  has : Has w Q 3 #[.int .i64 (s : Int)]
  gr : W.grownBy w (some Q)
def OrdEnd (I : Array α → World → Prop) (Q : Nat) (d : Array α) (W : World) (r : Nat × Nat × Nat) (e : Ending) (w' : World) : Prop := e = .returned (.tuple #[.int .i64 (r.1 : Int), .int .i64 (r.2.1 : Int)]) ∧ Cn I Q d W r.2.2 w'
def MedEnd (I : Array α → World → Prop) (Q : Nat) (d : Array α) (W : World) (r : Nat × Nat) (e : Ending) (w' : World) : Prop := e = .returned (.int .i64 (r.1 : Int)) ∧ Cn I Q d W r.2 w'
set_option maxRecDepth 100000 in
set_option maxHeartbeats 2000000 in
theorem order2_any (S : Srt lt I blk n low g sf lb sb) (a b s Q : Nat) (d : Array α) (W : World) (hI : I d W) (hQ : Has W Q 3 #[.int .i64 (s : Int)]) (hlow : low ≤ Q) (ha : a < n) (hb : b < n) (hs : s ≤ 1000) :
    Calls Tryz.prog 141 #[.agg #[.func (.func g) #[] lb, .func (.func sf) #[] sb], .int .i64 (a : Int), .int .i64 (b : Int), .pointer (some ⟨Q, 0, none⟩)] W (OrdEnd I Q d W (order2 lt d a b s)) := by
  have eg := S.enters
  obtain ⟨W1, hW1⟩ : ∃ W1, W.alloc (.cells #[.func (.func g) #[] lb, .func (.func sf) #[] sb] 92) = W1 := ⟨_, rfl⟩
  have hb1 : Below W.heap.size W W1 := hW1 ▸ boxW_below W
  have hx1 : Has W1 W.heap.size 92 #[.func (.func g) #[] lb, .func (.func sf) #[] sb] := hW1 ▸ boxW_has W
  have hl := S.less d W1 b a (S.below _ _ _ hI hb1) hb ha
  have hq1 := hQ.below hb1 hQ.lt
  have c0 := hx1.cell0
  have HS := Lib.hid S
  have HI := Lib.hid hI
  have HB := Lib.hid hb1
  have HQ := Lib.hid hq1
  unfold order2
  clear S hI hQ hb1 hx1 hq1
  cases hv : lt d[b]! d[a]!
  · rw [hv] at hl
    have HL := Lib.hid hl
    clear hl hv
    go_enter Tryz.func141, Tryz.ntmps141
    go_wp2_with (go_at_fn g; refine HL.out.mono ?_; rintro e w5 ⟨rfl, h5⟩; have C5 : Hid (Cn I Q d W s w5) := Lib.hid ⟨HS.out.below _ _ _ (HS.out.below _ _ _ HI.out HB.out) h5, HQ.out.below h5 HQ.out.lt, gb_trans (gb_below HB.out _) (gb_below h5 _)⟩; clear h5)
    go_ret2
    exact ⟨rfl, C5.out⟩
  · rw [hv] at hl
    have HL := Lib.hid hl
    clear hl hv
    go_enter Tryz.func141, Tryz.ntmps141
    go_wp2_with (go_at_fn g; refine HL.out.mono ?_; rintro e w5 ⟨rfl, h5⟩; have hq5 := HQ.out.below h5 HQ.out.lt; have q0 := hq5.cell0; have f0 := hq5.free 0; have C5 : Hid (Cn I Q d W (s + 1) (w5.setCell ⟨Q, 0, none⟩ (.int .i64 ((s : Int) + 1)))) := Lib.hid ⟨HS.out.away _ _ _ _ (HS.out.below _ _ _ (HS.out.below _ _ _ HI.out HB.out) h5) hlow, hq5.store 0 _, gb_trans (gb_trans (gb_below HB.out _) (gb_below h5 _)) (gb_set w5 Q _)⟩; clear h5 hq5)
    go_ret2
    exact ⟨rfl, C5.out⟩
theorem order2_in {d : Array α} {a b s : Nat} : ((order2 lt d a b s).1 = a ∧ (order2 lt d a b s).2.1 = b ∨ (order2 lt d a b s).1 = b ∧ (order2 lt d a b s).2.1 = a) ∧ (order2 lt d a b s).2.2 ≤ s + 1 := by
  unfold order2
  split <;> simp
theorem median_in {d : Array α} {a b c s : Nat} (ha : a < n) (hb : b < n) (hc : c < n) : (median lt d a b c s).1 < n ∧ (median lt d a b c s).2 ≤ s + 3 := by
  unfold median
  dsimp only
  have h1 := order2_in (lt := lt) (d := d) (a := a) (b := b) (s := s)
  generalize order2 lt d a b s = r1 at h1
  have h2 := order2_in (lt := lt) (d := d) (a := r1.2.1) (b := c) (s := r1.2.2)
  generalize order2 lt d r1.2.1 c r1.2.2 = r2 at h2
  have h3 := order2_in (lt := lt) (d := d) (a := r1.1) (b := r2.1) (s := r2.2.2)
  generalize order2 lt d r1.1 r2.1 r2.2.2 = r3 at h3
  omega
set_option maxRecDepth 100000 in
set_option maxHeartbeats 2000000 in
theorem median_any (S : Srt lt I blk n low g sf lb sb) (a b c s Q : Nat) (d : Array α) (W : World) (hI : I d W) (hQ : Has W Q 3 #[.int .i64 (s : Int)]) (hlow : low ≤ Q) (ha : a < n) (hb : b < n) (hc : c < n) (hs : s ≤ 900) :
    Calls Tryz.prog 123 #[.agg #[.func (.func g) #[] lb, .func (.func sf) #[] sb], .int .i64 (a : Int), .int .i64 (b : Int), .int .i64 (c : Int), .pointer (some ⟨Q, 0, none⟩)] W (MedEnd I Q d W (median lt d a b c s)) := by
  obtain ⟨W1, hW1⟩ : ∃ W1, W.alloc (.cells #[.func (.func g) #[] lb, .func (.func sf) #[] sb] 92) = W1 := ⟨_, rfl⟩
  have hb1 : Below W.heap.size W W1 := hW1 ▸ boxW_below W
  have hx1 : Has W1 W.heap.size 92 #[.func (.func g) #[] lb, .func (.func sf) #[] sb] := hW1 ▸ boxW_has W
  have HS := Lib.hid S
  have C1 : Hid (Cn I Q d W s W1) := Lib.hid ⟨S.below _ _ _ hI hb1, hQ.below hb1 hQ.lt, gb_below hb1 _⟩
  have HX := Lib.hid hx1
  have hQW : Q < W.heap.size := hQ.lt
  have b0 := hx1.cell0
  have b1 := hx1.cell1
  have o1 := order2_in (lt := lt) (d := d) (a := a) (b := b) (s := s)
  unfold median
  dsimp only
  have A1 := Lib.hid (fun w h => order2_any S a b s Q d w h)
  generalize order2 lt d a b s = r1 at o1 A1
  have o2 := order2_in (lt := lt) (d := d) (a := r1.2.1) (b := c) (s := r1.2.2)
  have A2 := Lib.hid (fun w h => order2_any S r1.2.1 c r1.2.2 Q d w h)
  generalize order2 lt d r1.2.1 c r1.2.2 = r2 at o2 A2
  have o3 := order2_in (lt := lt) (d := d) (a := r1.1) (b := r2.1) (s := r2.2.2)
  have A3 := Lib.hid (fun w h => order2_any S r1.1 r2.1 r2.2.2 Q d w h)
  generalize order2 lt d r1.1 r2.1 r2.2.2 = r3 at o3 A3
  obtain ⟨x1, y1, s1⟩ := r1
  obtain ⟨x2, y2, s2⟩ := r2
  obtain ⟨x3, y3, s3⟩ := r3
  dsimp only at *
  have O1 := Lib.hid o1
  have O2 := Lib.hid o2
  have O3 := Lib.hid o3
  have k1 : x1 < n ∧ y1 < n ∧ s1 ≤ s + 1 := by omega
  have k2 : x2 < n ∧ y2 < n ∧ s2 ≤ s + 2 := by omega
  have k3 : x3 < n ∧ y3 < n ∧ s3 ≤ s + 3 := by omega
  have KK := Lib.hid (And.intro k1 (And.intro k2 k3))
  clear S hI hQ hb1 hx1 o1 o2 o3 k1 k2 k3
  go_enter Tryz.func123, Tryz.ntmps123
  go_wp2_with (first
    | (go_at_call 141; (with_reducible refine (A1.out W1 C1.out.inv C1.out.has hlow ha hb (by omega)).mono ?_); rintro e w2 ⟨rfl, h5⟩; have C2 : Hid (Cn I Q d W s1 w2) := Lib.hid ⟨h5.inv, h5.has, gb_trans C1.out.gr h5.gr⟩; have hx2 := HX.out.grown h5.gr (fun e => by injection e with e; omega); have X2 := Lib.hid hx2; have b2 := hx2.cell0; have b3 := hx2.cell1; clear h5 hx2)
    | (go_at_call 141; (with_reducible refine (A2.out w2 C2.out.inv C2.out.has hlow KK.out.1.2.1 hc (by have := KK.out.1; omega)).mono ?_); rintro e w3 ⟨rfl, h5⟩; have C3 : Hid (Cn I Q d W s2 w3) := Lib.hid ⟨h5.inv, h5.has, gb_trans C2.out.gr h5.gr⟩; have hx3 := X2.out.grown h5.gr (fun e => by injection e with e; omega); have b4 := hx3.cell0; have b5 := hx3.cell1; clear h5 hx3)
    | (go_at_call 141; (with_reducible refine (A3.out w3 C3.out.inv C3.out.has hlow KK.out.1.1 KK.out.2.1.1 (by have := KK.out.2.1; omega)).mono ?_); rintro e w4 ⟨rfl, h5⟩; have C4 : Hid (Cn I Q d W s3 w4) := Lib.hid ⟨h5.inv, h5.has, gb_trans C3.out.gr h5.gr⟩; clear h5))
  go_ret
  exact ⟨rfl, C4.out⟩
set_option maxRecDepth 100000 in
set_option maxHeartbeats 2000000 in
theorem medAdj_any (S : Srt lt I blk n low g sf lb sb) (a s Q : Nat) (d : Array α) (W : World) (hI : I d W) (hQ : Has W Q 3 #[.int .i64 (s : Int)]) (hlow : low ≤ Q) (ha0 : 1 ≤ a) (ha : a + 1 < n) (hs : s ≤ 900) :
    Calls Tryz.prog 122 #[.agg #[.func (.func g) #[] lb, .func (.func sf) #[] sb], .int .i64 (a : Int), .pointer (some ⟨Q, 0, none⟩)] W (MedEnd I Q d W (medianAdjacent lt d a s)) := by
  obtain ⟨W1, hW1⟩ : ∃ W1, W.alloc (.cells #[.func (.func g) #[] lb, .func (.func sf) #[] sb] 92) = W1 := ⟨_, rfl⟩
  have hb1 : Below W.heap.size W W1 := hW1 ▸ boxW_below W
  have hx1 : Has W1 W.heap.size 92 #[.func (.func g) #[] lb, .func (.func sf) #[] sb] := hW1 ▸ boxW_has W
  have hmost := S.most
  have HM := Lib.hid (median_any S (a - 1) a (a + 1) s Q d W1 (S.below _ _ _ hI hb1) (hQ.below hb1 hQ.lt) hlow (by omega) (by omega) ha hs)
  rw [show ((a - 1 : Nat) : Int) = (a : Int) - 1 by omega, show ((a + 1 : Nat) : Int) = (a : Int) + 1 by omega] at HM
  have HB := Lib.hid hb1
  have b0 := hx1.cell0
  have b1 := hx1.cell1
  unfold medianAdjacent
  generalize median lt d (a - 1) a (a + 1) s = r at HM
  clear S hI hQ hb1 hx1
  go_enter Tryz.func122, Tryz.ntmps122
  go_wp2_with (go_at_call 123; (with_reducible refine HM.out.mono ?_); rintro e w2 ⟨rfl, h5⟩; have C2 : Hid (Cn I Q d W r.2 w2) := Lib.hid ⟨h5.inv, h5.has, gb_trans (gb_below HB.out _) h5.gr⟩; clear h5)
  go_ret
  exact ⟨rfl, C2.out⟩
end

end Go.Proofs.YtglkmpglpddfdaaGreatDoor
end
