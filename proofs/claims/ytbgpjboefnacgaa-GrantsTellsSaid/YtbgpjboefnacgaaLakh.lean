/- Package lattice: Close: contract, no statement. -/
import Derived.Test.YtbgpjboefnacgaaLaka
import Derived.Test.YtbgpjboefnacgaaLatc
import Derived.StillTailTactics
namespace Go.Proofs.Ytbgpjboefnacgaa
open Go.RowKit
set_option linter.unusedVariables false

/-! A way goes through one label more. -/
def phaseN (o : List Nat) (v r : Nat) : List Nat := (List.range o.length).map fun i : Nat => if i < r ∧ ubit o i v = true then o.getD i 0 ||| o.getD v 0 else o.getD i 0
theorem phase_len (o : List Nat) (v r : Nat) : (phaseN o v r).length = o.length := by simp [phaseN]
theorem phase_at (o : List Nat) (v r i : Nat) (hi : i < o.length) : (phaseN o v r).getD i 0 = if i < r ∧ ubit o i v = true then o.getD i 0 ||| o.getD v 0 else o.getD i 0 := by
  rw [getD_at _ _ (by rw [phase_len]; exact hi)]
  simp [phaseN]
theorem phase_zero (o : List Nat) (v : Nat) : phaseN o v 0 = o := by
  apply List.ext_getElem (by simp [phaseN])
  intro i h1 h2
  simp [phaseN, List.getD, List.getElem?_eq_getElem h2]
theorem phase_here (o : List Nat) (v r : Nat) (hr : r < o.length) : (phaseN o v r).getD r 0 = o.getD r 0 := by
  rw [phase_at o v r r hr, if_neg (by omega)]
theorem phase_via (o : List Nat) (v r : Nat) (hv : v < o.length) : (phaseN o v r).getD v 0 = o.getD v 0 := by
  rw [phase_at o v r v hv]
  split
  · exact Nat.or_self _
  · rfl
theorem phase_yes (o : List Nat) (v r : Nat) (h : ubit o r v = true) : phaseN o v (r + 1) = (phaseN o v r).set r (o.getD r 0 ||| o.getD v 0) := by
  apply List.ext_getElem (by simp [phaseN])
  intro i h1 h2
  rw [List.getElem_set]
  simp only [phaseN, List.getElem_map, List.getElem_range]
  by_cases e : r = i
  · subst e
    rw [if_pos rfl, if_pos ⟨by omega, h⟩]
  · rw [if_neg e]
    by_cases hi : i < r
    · simp only [show i < r + 1 by omega, hi]
    · simp only [show ¬ i < r + 1 by omega, hi]
theorem phase_no (o : List Nat) (v r : Nat) (h : ubit o r v = false) : phaseN o v (r + 1) = phaseN o v r := by
  unfold phaseN
  apply List.map_congr_left
  intro i _
  by_cases e : i = r
  · subst e
    rw [if_neg (by rw [h]; simp), if_neg (by omega)]
  · by_cases hi : i < r
    · simp only [show i < r + 1 by omega, hi]
    · simp only [show ¬ i < r + 1 by omega, hi]
theorem phase_bit (o : List Nat) (v a c : Nat) (ha : a < o.length) : ubit (phaseN o v o.length) a c = (ubit o a c || (ubit o a v && ubit o v c)) := by
  unfold ubit
  rw [phase_at o v _ a ha]
  cases h : ubit o a v
  · rw [if_neg (by simp)]
    unfold ubit at h
    rw [h]
    simp
  · rw [if_pos ⟨ha, rfl⟩, Nat.testBit_or]
    unfold ubit at h
    rw [h]
    simp
theorem ubit_out (o : List Nat) (a c : Nat) (ha : ¬ a < o.length) : ubit o a c = false := by
  unfold ubit
  simp [List.getD, List.getElem?_eq_none (Nat.le_of_not_lt ha)]
theorem phase_iff (o : List Nat) (v a c : Nat) : ubit (phaseN o v o.length) a c = true ↔ ubit o a c = true ∨ (ubit o a v = true ∧ ubit o v c = true) := by
  by_cases ha : a < o.length
  · rw [phase_bit o v a c ha]
    simp
  · rw [ubit_out _ _ _ (by rw [phase_len]; exact ha), ubit_out o a c ha, ubit_out o a v ha]
    simp
/-- Ways through the labels below v are there. -/
def Thru (o : List Nat) (v : Nat) : Prop := ∀ b, b < v → ∀ a c, ubit o a b = true → ubit o b c = true → ubit o a c = true
theorem Thru.next {o : List Nat} {v : Nat} (h : Thru o v) : Thru (phaseN o v o.length) (v + 1) := by
  intro b hb a c h1 h2
  rw [phase_iff] at h1 h2 ⊢
  by_cases e : b = v
  · subst e
    have k1 : ubit o a b = true := h1.elim id (fun x => x.1)
    have k2 : ubit o b c = true := h2.elim id (fun x => x.2)
    exact .inr ⟨k1, k2⟩
  · have hbv : b < v := by omega
    rcases h1 with h1 | ⟨h1, h1'⟩
    · rcases h2 with h2 | ⟨h2, h2'⟩
      · exact .inl (h b hbv a c h1 h2)
      · exact .inr ⟨h b hbv a v h1 h2, h2'⟩
    · rcases h2 with h2 | ⟨h2, h2'⟩
      · exact .inr ⟨h1, h b hbv v c h1' h2⟩
      · exact .inr ⟨h1, h2'⟩
theorem Way.next {up o : List Nat} (h : Way up o) (v : Nat) : Way up (phaseN o v o.length) := by
  refine ⟨by rw [phase_len]; exact h.len, fun i j hu => ?_, fun i hi j hj hb => ?_, fun i j hu => ?_⟩
  · rcases (phase_iff o v i j).1 hu with hu | ⟨_, hu⟩
    · exact h.low i j hu
    · exact h.low v j hu
  · exact (phase_iff o v i j).2 (.inl (h.base i hi j hj hb))
  · rcases (phase_iff o v i j).1 hu with hu | ⟨hu, hu'⟩
    · exact h.reach i j hu
    · exact (h.reach i v hu).trans_ (h.reach v j hu')
theorem Way.done {up o : List Nat} (h : Way up o) (h64 : up.length ≤ 64) (ht : Thru o up.length) : o = closeN up :=
  h.close h64 (fun a _ b hb c _ h1 h2 => ht b hb a c h1 h2)
theorem phase_big {up o : List Nat} (h : Way up o) (h64 : up.length ≤ 64) (v r : Nat) : ∀ x ∈ phaseN o v r, x < 2 ^ 64 := by
  have hb := h.big h64
  have hg : ∀ i, o.getD i 0 < 2 ^ 64 := fun i => by
    by_cases hi : i < o.length
    · rw [getD_at o i hi]; exact hb _ (List.getElem_mem hi)
    · have : o.getD i 0 = 0 := by simp [List.getD, List.getElem?_eq_none (Nat.le_of_not_lt hi)]
      rw [this]; decide
  intro x hx
  obtain ⟨i, _, rfl⟩ := List.mem_map.1 hx
  split
  · exact Nat.or_lt_two_pow (hg i) (hg v)
  · exact hg i
theorem base_set (up : List Nat) (p : Nat) (h64 : up.length ≤ 64) (hp : p < up.length) : baseN up (p + 1) 0 = (baseN up p 0).set p (aboveN up (p : Int) ||| 2 ^ p) := by
  have hv : aboveN up (p : Int) ||| 2 ^ p = mask (fun b => decide (p = b) || ubit up p b) up.length := by
    apply bits_eq
    intro j
    rw [Nat.testBit_or, aboveN_bit, Nat.testBit_two_pow, leqZ_nat]
    unfold lq
    by_cases hj : j < up.length
    · simp [hj, hp, h64, Bool.or_comm]
    · have : ¬ p = j := by omega
      simp [hj, this]
  rw [hv]
  apply List.ext_getElem (by simp [baseN])
  intro i h1 h2
  rw [List.getElem_set, baseN_at, baseN_at]
  by_cases e : p = i
  · subst e
    rw [if_pos rfl, if_pos (by omega)]
  · rw [if_neg e]
    by_cases hi : i < p
    · rw [if_pos hi, if_pos (by omega)]
    · have h3 : ¬ i < p + 1 := by omega
      simp only [hi, h3, if_false]
      simp

set_option maxRecDepth 100000 in
set_option maxHeartbeats 4000000 in
theorem laClose_all (up : List Nat) (A : Option Addr) (n c : Nat) (w : World) (h : ArgU w A n c up) (hn : n ≤ 1000000) :
    Calls Try.prog 35 #[.slice A n c] w (NumsEnd (closeN up) w) := by
  by_cases h64 : n ≤ 64
  · have HN := Lib.hid h.len
    have HAb := Lib.hid (fun (wr : World) (hb : Below w.heap.size w wr) (a : Int) => above_any up A n c a wr (h.below hb))
    have hmk := make_u64s n (by omega)
    have e0 : decide (64 < (n : Int)) = false := by simp; omega
    clear h
    go_enter Try.func35, Try.ntmps35
    go_wp2
    go_loopw [15] (fun i wr => ∃ p : Nat, p ≤ n ∧ i = .int .i64 p ∧ Has wr w.heap.size 24 ((baseN up p 0).map u64V).toArray ∧ Below w.heap.size w wr) (fun i _ => n - (intOf i).toNat)
    case atStart => exact ⟨0, Nat.zero_le _, rfl, by rw [baseN_start, ← HN.out, ← made_u64]; exact Has.made _ _ _, (Below.refl _ _).alloc (Nat.le_refl _) _⟩
    case round =>
      obtain ⟨p, hp, rfl, hh, hb⟩ := hrel
      have HH := Lib.hid hh
      have HB := Lib.hid hb
      clear hh hb
      by_cases hpn : p < n
      · have hbl : p < (baseN up p 0).length := by rw [baseN_len, ← HN.out]; exact hpn
        have HE := Lib.hid (base_set up p (by have := HN.out; omega) (by have := HN.out; omega))
        have hab := aboveN_lt64 up (p : Int)
        have HBD : Below wr.heap.size wr wr.drew := (Below.refl _ _).drew
        have HAp := Lib.hid (HAb.out wr.drew (below_step HB.out HBD) (p : Int))
        have HS := Lib.hid (shl_num p (by omega))
        have hp2 : 2 ^ p < 2 ^ 64 := Nat.pow_lt_pow_right (by omega) (by omega)
        generalize aboveN up (p : Int) = y at HE HAp hab
        have HO := Lib.hid (u64_or_nat y (2 ^ p) hab hp2)
        generalize 2 ^ p = z at HE HS HO hp2
        have i0 : (0 : Int) ≤ (p : Int) := by omega
        have i1 : (p : Int) < (n : Int) := by omega
        obtain ⟨w3, hw3⟩ : ∃ w3 : World, w3 = wr := ⟨_, rfl⟩
        subst hw3
        go_wp2
        go_region_held3 (fun w' => True) (first | trivial) (first
          | (go_at_call 48; (with_reducible refine HAp.out.mono ?_); rintro e w1 ⟨rfl, h1⟩; have H1 := Lib.hid ((HH.out.below HBD HH.out.lt).below h1 HH.out.lt); have B1 := Lib.hid (below_step (below_step HB.out HBD) h1); have cq := way_cell H1.out hbl; have fq := H1.out.free p; clear h1))
        rw [HS.out, HO.out]
        go_wp2
        go_roundw
        case rel => exact ⟨p + 1, by omega, by go_num, by rw [HE.out]; exact way_store H1.out p (y ||| z), B1.out.setCell (p := ⟨w.heap.size, p, none⟩) (Nat.le_refl _) _⟩
        case measure => simp [intOf]; omega
      · obtain rfl : p = n := by omega
        have HW0 : Hid (Way up (baseN up p 0)) := Lib.hid (by have := baseN_way up; rwa [← HN.out] at this)
        obtain ⟨wb, hwb⟩ : ∃ wb : World, wb = wr := ⟨_, rfl⟩
        subst hwb
        clear HAb
        go_wp2
        go_loopw [30] (fun i wr => ∃ (v : Nat) (o : List Nat), v ≤ p ∧ i = .int .i64 v ∧ Way up o ∧ Thru o v ∧ Has wr w.heap.size 24 (o.map u64V).toArray ∧ Below w.heap.size w wr) (fun i _ => p - (intOf i).toNat)
        case atStart => exact ⟨0, _, Nat.zero_le _, rfl, HW0.out, fun b hb => absurd hb (by omega), HH.out, HB.out⟩
        case round =>
          obtain ⟨v, o, hv, rfl, hway, hthru, hh, hb⟩ := hrel
          have HWAY := Lib.hid hway
          have HTH := Lib.hid hthru
          have HH2 := Lib.hid hh
          have HB2 := Lib.hid hb
          have HOL : Hid (o.length = p) := Lib.hid (by rw [hway.len, HN.out])
          clear hway hthru hh hb
          by_cases hvp : v < p
          · obtain ⟨w3, hw3⟩ : ∃ w3 : World, w3 = wr := ⟨_, rfl⟩
            subst hw3
            go_wp2
            go_loopw [35] (fun i wr => ∃ r : Nat, r ≤ p ∧ i = .int .i64 r ∧ Has wr w.heap.size 24 ((phaseN o v r).map u64V).toArray ∧ Below w.heap.size w wr) (fun i _ => p - (intOf i).toNat)
            case atStart => exact ⟨0, Nat.zero_le _, rfl, by rw [phase_zero]; exact HH2.out, HB2.out⟩
            case round =>
              obtain ⟨r, hr, rfl, hh, hb⟩ := hrel
              have HH3 := Lib.hid hh
              have HB3 := Lib.hid hb
              clear hh hb
              by_cases hrp : r < p
              · have hrl : r < (phaseN o v r).length := by rw [phase_len, HOL.out]; exact hrp
                have hvl : v < (phaseN o v r).length := by rw [phase_len, HOL.out]; exact hvp
                have hlq : leqZ (phaseN o v r) (r : Int) (v : Int) = ubit o r v := by
                  rw [leqZ_nat]
                  unfold lq ubit
                  rw [phase_here o v r (by rw [HOL.out]; exact hrp)]
                  have hl64 : (phaseN o v r).length ≤ 64 := by rw [phase_len, HOL.out]; exact h64
                  simp [hrl, hvl, hl64]
                have HLq := Lib.hid (leq_any (phaseN o v r) (some ⟨w.heap.size, 0, none⟩) p p (r : Int) (v : Int) wr (has_argU (n := p) HH3.out (by rw [phase_len, HOL.out]) (by unfold maxLen; omega) (phase_big HWAY.out (by have := HN.out; omega) v r)))
                rw [hlq] at HLq
                have HYes := Lib.hid (phase_yes o v r)
                have HNo := Lib.hid (phase_no o v r)
                have eR : (phaseN o v r)[r] = o.getD r 0 := by rw [← getD_at _ _ hrl]; exact phase_here o v r (by rw [HOL.out]; exact hrp)
                have eV : (phaseN o v r)[v] = o.getD v 0 := by rw [← getD_at _ _ hvl]; exact phase_via o v r (by rw [HOL.out]; exact hvp)
                have hbg := phase_big HWAY.out (by have := HN.out; omega) v r
                have hx1 : o.getD r 0 < 2 ^ 64 := by rw [← eR]; exact hbg _ (List.getElem_mem hrl)
                have hx2 : o.getD v 0 < 2 ^ 64 := by rw [← eV]; exact hbg _ (List.getElem_mem hvl)
                have HCr : Hid (∀ w1, Has w1 w.heap.size 24 ((phaseN o v r).map u64V).toArray → w1.cell? ⟨w.heap.size, r, none⟩ = some (.int .u64 (o.getD r 0 : Int)) ∧ w1.cell? ⟨w.heap.size, v, none⟩ = some (.int .u64 (o.getD v 0 : Int))) := Lib.hid (fun w1 h => by
                  have k1 := way_cell h hrl
                  have k2 := way_cell h hvl
                  rw [eR] at k1
                  rw [eV] at k2
                  exact ⟨k1, k2⟩)
                have HOr := Lib.hid (u64_or_nat (o.getD r 0) (o.getD v 0) hx1 hx2)
                generalize o.getD r 0 = y1 at HYes HCr HOr
                generalize o.getD v 0 = y2 at HYes HCr HOr
                clear hlq eR eV hbg hx1 hx2 hrl hvl
                generalize ubit o r v = q at HLq HYes HNo
                cases q
                · have HE := Lib.hid (HNo.out rfl)
                  clear HYes HNo HOr HCr
                  go_wp2_with (go_at_call 31; refine HLq.out.mono ?_; rintro e w1 ⟨rfl, h1⟩; have H1 := Lib.hid (HH3.out.below h1 HH3.out.lt); have B1 := Lib.hid (below_step HB3.out h1); clear h1)
                  go_roundw
                  case rel => exact ⟨r + 1, by omega, by go_num, by rw [HE.out]; exact H1.out, B1.out⟩
                  case measure => simp [intOf]; omega
                · have HE := Lib.hid (HYes.out rfl)
                  clear HYes HNo
                  have i0 : (0 : Int) ≤ (r : Int) := by omega
                  have i1 : (r : Int) < (p : Int) := by omega
                  have i2 : (0 : Int) ≤ (v : Int) := by omega
                  have i3 : (v : Int) < (p : Int) := by omega
                  go_wp2_with (go_at_call 31; refine HLq.out.mono ?_; rintro e w1 ⟨rfl, h1⟩; have H1 := Lib.hid (HH3.out.below h1 HH3.out.lt); have B1 := Lib.hid (below_step HB3.out h1); have c1 := (HCr.out _ H1.out).1; have c2 := (HCr.out _ H1.out).2; have f1 := H1.out.free r; clear h1)
                  go_still_tail 10, (by kernel_rfl)
                  change wpList _ _ _ _ _ w1.drew
                  have c1d : w1.drew.cell? ⟨w.heap.size, r, none⟩ = some (.int .u64 (y1 : Int)) := c1
                  have f1d : w1.drew.frozen? ⟨w.heap.size, r, none⟩ = false := f1
                  have D1 := Lib.hid H1.out.drew
                  have E1 := Lib.hid B1.out.drew
                  rw [HOr.out]
                  go_wp2
                  go_roundw
                  case rel => exact ⟨r + 1, by omega, by go_num, by rw [HE.out]; exact way_store D1.out r (y1 ||| y2), E1.out.setCell (p := ⟨w.heap.size, r, none⟩) (Nat.le_refl _) _⟩
                  case measure => simp [intOf]; omega
              · obtain rfl : r = p := by omega
                obtain ⟨w4, hw4⟩ : ∃ w4 : World, w4 = wr := ⟨_, rfl⟩
                subst hw4
                go_wp2
                go_roundw
                case rel => exact ⟨v + 1, phaseN o v r, by omega, by go_num, by rw [← HOL.out]; exact HWAY.out.next v, by rw [← HOL.out]; exact HTH.out.next, HH3.out, HB3.out⟩
                case measure => simp [intOf]; omega
          · obtain rfl : v = p := by omega
            have HE := Lib.hid (HWAY.out.done (by have := HN.out; omega) (by rw [← HN.out]; exact HTH.out))
            have HR : Hid (ArgU wr (some ⟨w.heap.size, 0, none⟩) v v o) := Lib.hid (has_argU (n := v) HH2.out HOL.out.symm (by unfold maxLen; omega) (HWAY.out.big (by have := HN.out; omega)))
            obtain ⟨w4, hw4⟩ : ∃ w4 : World, w4 = wr := ⟨_, rfl⟩
            subst hw4
            go_wp2
            go_ret
            exact ⟨_, _, _, rfl, by rw [← HE.out]; exact HR.out, HB2.out⟩
  · have HE := Lib.hid (closeN_many up (by have := h.len; omega))
    clear h
    go_enter Try.func35, Try.ntmps35
    go_wp2
    go_ret
    exact ⟨none, 0, 0, rfl, by rw [HE.out]; exact argU_nil _, Below.refl _ _⟩
theorem laClose_any (up : List Nat) (A : Option Addr) (n c : Nat) (w : World) (ht : Base3 w) (h : ArgU w A n c up) (hn : n ≤ 1000000) :
    Calls Try.prog 35 #[.slice A n c] w (NumsEnd (closeN up) w) := laClose_all up A n c w h hn

end Go.Proofs.Ytbgpjboefnacgaa
