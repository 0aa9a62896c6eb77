import Derived.Test.YtglkmpglpddfdaaGreatDoorJ21
import Derived.Test.YtglkmpglpddfdaaGreatDoorJLatc
import Derived.Test.YtglkmpglpddfdaaGreatDoorJLake
import Derived.Test.YtglkmpglpddfdaaGreatDoorJ20
import Derived.Test.YtglkmpglpddfdaaGreatDoorJ11
import Derived.Test.YtglkmpglpddfdaaGreatDoorJ07
import Derived.Deep.RegionHeld3
/- Of a claim's texts, joined: Lakc Lakf Lakg Gka. No statement but in the last. -/
section
namespace Go.Proofs.YtglkmpglpddfdaaGreatDoor
open Go.RowKit Go.Shelf
set_option linter.unusedVariables false

/-! The bounds. -/
theorem near_is {S : Int → Nat} (hS : ∀ c, S c < 2 ^ 64) (a b : Int) (c : Nat) : nearP (S a &&& S b) S c = true ↔ (S a).testBit c = true ∧ (S b).testBit c = true ∧ ∀ d : Nat, (S a).testBit d = true → (S b).testBit d = true → (S c).testBit d = true := by
  unfold nearP
  rw [Bool.and_eq_true, Nat.testBit_and, Bool.and_eq_true, and_assoc, and_congr_right_iff]
  intro _
  rw [and_congr_right_iff]
  intro _
  have e : 18446744073709551615 - S c = 2 ^ 64 - (S c + 1) := by omega
  have hb : ∀ d, (18446744073709551615 - S c).testBit d = (decide (d < 64) && !(S c).testBit d) := fun d => by rw [e, Nat.testBit_two_pow_sub_succ (hS c)]
  constructor
  · intro h d h1 h2
    have h0 : (S a &&& S b) &&& (18446744073709551615 - S c) = 0 := by simpa using h
    have := congrArg (fun x => x.testBit d) h0
    simp only [Nat.testBit_and, h1, h2, hb, Nat.zero_testBit, Bool.and_true, Bool.true_and] at this
    have hd : d < 64 := by
      apply Classical.byContradiction
      intro hn
      rw [Nat.testBit_lt_two_pow (Nat.lt_of_lt_of_le (hS a) (Nat.pow_le_pow_right (by omega) (by omega)))] at h1
      cases h1
    simpa [hd] using this
  · intro h
    have h0 : (S a &&& S b) &&& (18446744073709551615 - S c) = 0 := Nat.eq_of_testBit_eq fun d => by
      rw [Nat.testBit_and, Nat.testBit_and, hb, Nat.zero_testBit]
      cases h1 : (S a).testBit d
      · rfl
      · cases h2 : (S b).testBit d
        · rfl
        · rw [h d h1 h2]
          simp
    simpa using h0
theorem firstN_two {p q : Nat → Bool} {n m : Nat} (h : ∀ k, p k = q k) (hn : ∀ k, q k = true → k < n) (hm : ∀ k, q k = true → k < m) : firstN p n = firstN q m := by
  rcases firstN_cases q m with ⟨k, h1, h2, h3, h4⟩ | ⟨h1, h2⟩
  · rw [h4]
    exact firstN_some (hn k h2) (by rw [h]; exact h2) (fun j hj => by rw [h]; exact h3 j hj)
  · rw [h2]
    refine firstN_none fun j _ => ?_
    rw [h]
    cases hq : q j
    · rfl
    · exact absurd (h1 j (hm j hq)) (by rw [hq]; simp)
theorem leqZ_lt {up : List Nat} {a b : Int} (h : leqZ up a b = true) : up.length ≤ 64 ∧ a < up.length ∧ b < up.length := by
  obtain ⟨h1, h2, h3⟩ := leqZ_iff.1 h
  obtain ⟨h4, h5, h6, _⟩ := lq_iff.1 h3
  omega
theorem join_near (up : List Nat) (a b : Int) : firstN (nearP (aboveN up a &&& aboveN up b) (aboveN up)) 64 = joinN up a b := by
  unfold joinN
  refine firstN_two (fun k => ?_) (fun k hk => ?_) (fun k hk => ?_)
  · rw [Bool.eq_iff_iff, near_is (aboveN_lt64 up), isJ_iff]
    simp only [aboveN_bit]
  · have := leqZ_lt (isJ_iff.1 hk).1
    omega
  · have := leqZ_lt (isJ_iff.1 hk).1
    omega
set_option maxHeartbeats 1000000 in
theorem join1_any (up : List Nat) (A : Option Addr) (n k Bu : Nat) (c : Int) (w : World) (h : ArgU w A n k up) (hc : w.cell? ⟨Bu, 0, none⟩ = some (.slice A n k)) :
    Calls Tryz.prog 127 #[.int .i64 c, .pointer (some ⟨Bu, 0, none⟩)] w (U64End (aboveN up c) w) := by
  have HA := Lib.hid (above_any up A n k c w h)
  clear h
  go_enter Tryz.func127, Tryz.ntmps127
  go_wp2_with (go_at_call 49; refine HA.out.mono ?_; rintro e w1 ⟨rfl, h1⟩; have B1 := Lib.hid h1; clear h1)
  go_ret
  exact ⟨rfl, B1.out⟩
set_option maxHeartbeats 1000000 in
theorem laJoin_any (up : List Nat) (A : Option Addr) (n c : Nat) (a b : Int) (w : World) (ht : Base3 w) (h : ArgU w A n c up) (hn : n ≤ 1000000) :
    Calls Tryz.prog 107 #[.slice A n c, .int .i64 a, .int .i64 b] w (IntEnd (joinN up a b) w) := by
  have hB0 : Below w.heap.size w (w.alloc (.cells #[.slice A n c] 24)) := (Below.refl _ w).alloc (Nat.le_refl _) _
  have bU := Boxed.new w 24 (.slice A n c)
  have HN := Lib.hid (nearJ_any (aboveN up) (aboveN_lt64 up) w.heap.size a b _ (ht.below hB0) (fun c' w1 h1 => join1_any up A n c w.heap.size c' w1 (h.below (below_step hB0 h1)) (boxed_below bU h1).cell))
  rw [join_near] at HN
  have HB := Lib.hid hB0
  clear h bU hB0 ht
  go_enter Tryz.func107, Tryz.ntmps107
  go_wp2_with (go_at_call 126; refine HN.out.mono ?_; rintro e w1 ⟨rfl, h1⟩; have B1 := Lib.hid (below_step HB.out h1); clear h1)
  go_ret
  exact ⟨rfl, B1.out⟩
end Go.Proofs.YtglkmpglpddfdaaGreatDoor
end

section
namespace Go.Proofs.YtglkmpglpddfdaaGreatDoor
open Go.RowKit
set_option linter.unusedVariables false

theorem downs_all (up : List Nat) : downs up up.length = turnedN up := by
  unfold downs turnedN
  apply List.map_congr_left
  intro i hi
  rw [if_pos (by simpa using hi)]
def boundsB (up : List Nat) : Bool := (List.range up.length).all fun a => (List.range a).all fun b => decide (0 ≤ joinN up a b) && decide (0 ≤ meetN up a b)
def OkJM (up : List Nat) (a b : Nat) : Prop := 0 ≤ joinN up a b ∧ 0 ≤ meetN up a b
theorem bounds_iff (up : List Nat) : boundsB up = true ↔ ∀ a, a < up.length → ∀ b, b < a → OkJM up a b := by
  unfold boundsB OkJM
  simp only [List.all_eq_true, List.mem_range, Bool.and_eq_true, decide_eq_true_eq]
theorem bounds_no {up : List Nat} {a b : Nat} (ha : a < up.length) (hb : b < a) (h : ¬ OkJM up a b) : boundsB up = false := by
  cases e : boundsB up
  · rfl
  · exact absurd ((bounds_iff up).1 e a ha b hb) h

set_option maxRecDepth 100000 in
set_option maxHeartbeats 2000000 in
theorem hasBounds_any (up : List Nat) (A : Option Addr) (n c : Nat) (w : World) (ht : Base3 w) (h : ArgU w A n c up) (hn : n ≤ 64) :
    Calls Tryz.prog 64 #[.slice A n c] w (BoolEnd (boundsB up) w) := by
  have HT := Lib.hid ht
  have HA := Lib.hid h
  have HN := Lib.hid h.len
  have HD := Lib.hid (fun (wr : World) (hb : Below w.heap.size w wr) (a : Int) => down_any up A n c a wr (h.below hb) (by omega))
  have hmk := make_u64s n (by omega)
  clear ht h
  go_enter Tryz.func64, Tryz.ntmps64
  go_wp2
  go_loopw [12] (fun i wr => ∃ p : Nat, p ≤ n ∧ i = .int .i64 p ∧ Has wr w.heap.size 37 ((downs up p).map u64V).toArray ∧ Below w.heap.size w wr) (fun i _ => n - (intOf i).toNat)
  case atStart => exact ⟨0, Nat.zero_le _, rfl, by rw [downs_zero, ← HN.out, ← made_u64]; exact Has.made _ _ _, (Below.refl _ _).alloc (Nat.le_refl _) _⟩
  case round =>
    obtain ⟨p, hp, rfl, hh, hb⟩ := hrel
    have HH := Lib.hid hh
    have HB := Lib.hid hb
    clear hh hb
    by_cases hpn : p < n
    · have hbl : p < (downs up p).length := by rw [downs_len, ← HN.out]; exact hpn
      have HE := Lib.hid (downs_next up p)
      have HDp := Lib.hid (HD.out wr HB.out (p : Int))
      generalize downN up (p : Int) = y at HE HDp
      have i0 : (0 : Int) ≤ (p : Int) := by omega
      have i1 : (p : Int) < (n : Int) := by omega
      go_wp2_with (go_at_call 106; refine HDp.out.mono ?_; rintro e w1 ⟨rfl, h1⟩; have H1 := Lib.hid (HH.out.below h1 HH.out.lt); have B1 := Lib.hid (below_step HB.out h1); have cq := way_cell H1.out hbl; have fq := H1.out.free p; clear h1)
      go_roundw
      case rel => exact ⟨p + 1, by omega, by go_num, by rw [HE.out]; exact way_store H1.out p y, B1.out.setCell (p := ⟨w.heap.size, p, none⟩) (Nat.le_refl _) _⟩
      case measure => simp [intOf]; omega
    · obtain rfl : p = n := by omega
      have hal : downs up p = turnedN up := by
        have := downs_all up
        rwa [← HN.out] at this
      have HW := HH.out
      rw [hal] at HW
      have HTU := Lib.hid (has_argU (n := p) HW (by rw [turnedN_len]; exact HN.out) (by unfold maxLen; omega) (turnedN_big up (by have := HN.out; omega)))
      clear hal HW HD HH
      obtain ⟨wb, hwb⟩ : ∃ wb : World, wb = wr := ⟨_, rfl⟩
      subst hwb
      have HJ := Lib.hid (fun (w1 : World) (hb : Below wb.heap.size wb w1) (a b : Nat) => laJoin_any up A p c a b w1 (HT.out.below (below_step HB.out hb)) (HA.out.below (below_step HB.out hb)) (by omega))
      have HM := Lib.hid (fun (w1 : World) (hb : Below wb.heap.size wb w1) (a b : Nat) => laJoin_any (turnedN up) (some ⟨w.heap.size, 0, none⟩) p p a b w1 (HT.out.below (below_step HB.out hb)) (HTU.out.below hb) (by omega))
      have HJT := Lib.hid (fun (a b : Nat) => join_turned up (by have := HN.out; omega) (a : Int) (b : Int))
      clear HTU HA HT
      go_wp2
      go_loopw [24] (fun i wr => ∃ a : Nat, a ≤ p ∧ i = .int .i64 a ∧ (∀ a', a' < a → ∀ b, b < a' → OkJM up a' b) ∧ Below wb.heap.size wb wr) (fun i _ => p - (intOf i).toNat)
      case atStart => exact ⟨0, Nat.zero_le _, rfl, fun a' h => absurd h (by omega), Below.refl _ _⟩
      case round =>
        obtain ⟨a, ha, rfl, hok, hb⟩ := hrel
        have HO := Lib.hid hok
        have HB2 := Lib.hid hb
        clear hok hb
        by_cases hap : a < p
        · obtain ⟨w3, hw3⟩ : ∃ w3 : World, w3 = wr := ⟨_, rfl⟩
          subst hw3
          go_wp2
          go_loopw [28] (fun i wr => ∃ b : Nat, b ≤ a ∧ i = .int .i64 b ∧ (∀ b', b' < b → OkJM up a b') ∧ Below wb.heap.size wb wr) (fun i _ => a - (intOf i).toNat)
          case atStart => exact ⟨0, Nat.zero_le _, rfl, fun b' h => absurd h (by omega), HB2.out⟩
          case round =>
            obtain ⟨b, hbl, rfl, hokb, hb⟩ := hrel
            have HOb := Lib.hid hokb
            have HB3 := Lib.hid hb
            clear hokb hb
            by_cases hba : b < a
            · have HJ1 := Lib.hid (HJ.out wr HB3.out a b)
              have HM1 := Lib.hid (fun w1 h => HM.out w1 h a b)
              have hjt := HJT.out a b
              rw [hjt] at HM1
              have HQ : Hid (OkJM up a b ↔ 0 ≤ joinN up a b ∧ 0 ≤ meetN up a b) := Lib.hid Iff.rfl
              have HBN : Hid (¬ OkJM up a b → boundsB up = false) := Lib.hid (fun hh => bounds_no (by have := HN.out; omega) hba hh)
              generalize joinN up a b = j at HJ1 HQ
              generalize meetN up a b = m at HM1 HQ
              clear hjt
              by_cases hj : j < 0
              · have HF : Hid (boundsB up = false) := Lib.hid (HBN.out (fun hh => by have := (HQ.out.1 hh).1; omega))
                clear HBN HQ HM1
                go_wp2_with (first
                  | (go_at_call 107; (with_reducible refine HJ1.out.mono ?_); rintro e w1 ⟨rfl, h1⟩; have B1 := Lib.hid (below_step HB3.out h1); clear h1))
                go_ret
                exact ⟨ret_bool HF.out.symm, below_step HB.out B1.out⟩
              · by_cases hm : m < 0
                · have HF : Hid (boundsB up = false) := Lib.hid (HBN.out (fun hh => by have := (HQ.out.1 hh).2; omega))
                  clear HBN HQ
                  go_wp2_with (first
                    | (go_at_call 107; (with_reducible refine HJ1.out.mono ?_); rintro e w1 ⟨rfl, h1⟩; have B1 := Lib.hid (below_step HB3.out h1); clear h1)
                    | (go_at_call 107; (with_reducible refine (HM1.out _ B1.out).mono ?_); rintro e w2 ⟨rfl, h2⟩; have B2 := Lib.hid (below_step B1.out h2); clear h2))
                  go_ret
                  exact ⟨ret_bool HF.out.symm, below_step HB.out B2.out⟩
                · have HK : Hid (OkJM up a b) := Lib.hid (HQ.out.2 ⟨by omega, by omega⟩)
                  clear HBN HQ
                  go_wp2_with (first
                    | (go_at_call 107; (with_reducible refine HJ1.out.mono ?_); rintro e w1 ⟨rfl, h1⟩; have B1 := Lib.hid (below_step HB3.out h1); clear h1)
                    | (go_at_call 107; (with_reducible refine (HM1.out _ B1.out).mono ?_); rintro e w2 ⟨rfl, h2⟩; have B2 := Lib.hid (below_step B1.out h2); clear h2))
                  go_roundw
                  case rel => exact ⟨b + 1, by omega, by go_num, fun b' hb' => by
                    by_cases e : b' = b
                    · subst e; exact HK.out
                    · exact HOb.out b' (by omega), B2.out⟩
                  case measure => simp [intOf]; omega
            · obtain rfl : b = a := by omega
              obtain ⟨w4, hw4⟩ : ∃ w4 : World, w4 = wr := ⟨_, rfl⟩
              subst hw4
              go_wp2
              go_roundw
              case rel => exact ⟨b + 1, by omega, by go_num, fun a' ha' b' hb' => by
                by_cases e : a' = b
                · subst e; exact HOb.out b' hb'
                · exact HO.out a' (by omega) b' hb', HB3.out⟩
              case measure => simp [intOf]; omega
        · obtain rfl : a = p := by omega
          have HF : Hid (boundsB up = true) := Lib.hid ((bounds_iff up).2 (by rw [← HN.out]; exact HO.out))
          obtain ⟨w4, hw4⟩ : ∃ w4 : World, w4 = wr := ⟨_, rfl⟩
          subst hw4
          go_wp2
          go_ret
          exact ⟨ret_bool HF.out.symm, below_step HB.out HB2.out⟩

end Go.Proofs.YtglkmpglpddfdaaGreatDoor
end

section
namespace Go.Proofs.YtglkmpglpddfdaaGreatDoor
open Go.RowKit
set_option linter.unusedVariables false

theorem fit_iff {x y : Nat} (hx : x < 2 ^ 64) (hy : y < 2 ^ 64) : pairFit x y = true ↔ ∀ d, y.testBit d = true → x.testBit d = true := by
  unfold pairFit
  have e : 18446744073709551615 - x = 2 ^ 64 - (x + 1) := by omega
  have hb : ∀ d, (18446744073709551615 - x).testBit d = (decide (d < 64) && !x.testBit d) := fun d => by rw [e, Nat.testBit_two_pow_sub_succ hx]
  constructor
  · intro h d h1
    have h0 : y &&& (18446744073709551615 - x) = 0 := by simpa using h
    have := congrArg (fun z => z.testBit d) h0
    simp only [Nat.testBit_and, h1, hb, Nat.zero_testBit, Bool.true_and] at this
    have hd : d < 64 := by
      apply Classical.byContradiction
      intro hn
      rw [Nat.testBit_lt_two_pow (Nat.lt_of_lt_of_le hy (Nat.pow_le_pow_right (by omega) (by omega)))] at h1
      cases h1
    simpa [hd] using this
  · intro h
    have h0 : y &&& (18446744073709551615 - x) = 0 := Nat.eq_of_testBit_eq fun d => by
      rw [Nat.testBit_and, hb, Nat.zero_testBit]
      cases h1 : y.testBit d
      · rfl
      · rw [h d h1]
        simp
    simpa using h0
theorem rowFit_iff {n x : Nat} (hn : n ≤ 64) (hx : x < 2 ^ 64) : rowFit n x = true ↔ ∀ d, x.testBit d = true → d < n := by
  have hp : 2 ^ n ≤ 2 ^ 64 := Nat.pow_le_pow_right (by omega) hn
  have hq : 0 < 2 ^ n := Nat.pow_pos (by omega)
  have := fit_iff (x := 2 ^ n - 1) (y := x) (by omega) hx
  simp only [Nat.testBit_two_pow_sub_one, decide_eq_true_eq] at this
  exact this
theorem getD_big {up : List Nat} (h : ∀ x ∈ up, x < 2 ^ 64) (i : Nat) : up.getD i 0 < 2 ^ 64 := by
  by_cases hi : i < up.length
  · rw [getD_at up i hi]
    exact h _ (List.getElem_mem hi)
  · have : up.getD i 0 = 0 := by simp [List.getD, List.getElem?_eq_none (Nat.le_of_not_lt hi)]
    rw [this]
    decide
theorem ubit_lt64 {up : List Nat} (h : ∀ x ∈ up, x < 2 ^ 64) {a b : Nat} (hu : ubit up a b = true) : b < 64 := by
  apply Classical.byContradiction
  intro hn
  unfold ubit at hu
  rw [Nat.testBit_lt_two_pow (Nat.lt_of_lt_of_le (getD_big h a) (Nat.pow_le_pow_right (by omega) (by omega)))] at hu
  cases hu
theorem check_is {up : List Nat} (hbig : ∀ x ∈ up, x < 2 ^ 64) (h1 : 1 ≤ up.length) (h64 : up.length ≤ 64) : (orderB up && boundsB up) = checkB up := by
  rw [Bool.eq_iff_iff, checkB_iff, Bool.and_eq_true, bounds_iff]
  have hord : orderB up = true ↔ (∀ a, a < up.length → ∀ b, ubit up a b = true → b < up.length) ∧ (∀ a, a < up.length → ubit up a a = true) ∧
      (∀ a, a < up.length → ∀ d, ubit up a d = true → (∀ c, ubit up d c = true → ubit up a c = true) ∧ (d = a ∨ leqZ up d a = false)) := by
    unfold orderB rowOK pairOK
    simp only [List.all_eq_true, List.mem_range, Bool.and_eq_true, rowFit_iff h64 (getD_big hbig _), fit_iff (getD_big hbig _) (getD_big hbig _), listN_mem, Bool.or_eq_true, decide_eq_true_eq, Bool.not_eq_true']
    constructor
    · intro h
      refine ⟨fun a ha b hb => (h a ha).1.1 b hb, fun a ha => ?_, fun a ha d hd => ?_⟩
      · have := (h a ha).1.2
        rw [leqZ_nat] at this
        exact (lq_iff.1 this).2.2.2
      · exact (h a ha).2 d ⟨ubit_lt64 hbig hd, hd⟩
    · rintro ⟨k1, k2, k3⟩ a ha
      refine ⟨⟨fun d hd => k1 a ha d hd, ?_⟩, fun d hd => k3 a ha d hd.2⟩
      rw [leqZ_nat]
      exact lq_iff.2 ⟨h64, ha, ha, k2 a ha⟩
  rw [hord]
  constructor
  · rintro ⟨⟨k1, k2, k3⟩, k4⟩
    refine isLat_of up ⟨h1, h64⟩ (fun a ha b _ hb => k1 a ha b hb) k2 (fun a ha b hb hne hab => ?_) (fun a ha b hb hab c hc hbc => (k3 a ha b hab).1 c hbc) (fun a ha b hb => k4 a ha b hb)
    rcases (k3 a ha b hab).2 with e | e
    · exact absurd e (Ne.symm hne)
    · cases hu : ubit up b a
      · rfl
      · rw [leqZ_nat] at e
        rw [lq_iff.2 ⟨h64, hb, ha, hu⟩] at e
        cases e
  · intro h
    refine ⟨⟨fun a ha b hb => h.2.1 a ha b (ubit_lt64 hbig hb) hb, h.2.2.1, fun a ha d hd => ⟨fun c hc => ?_, ?_⟩⟩, fun a ha b hb => h.2.2.2.2.2 a ha b (by omega)⟩
    · have hdn := h.2.1 a ha d (ubit_lt64 hbig hd) hd
      exact h.2.2.2.2.1 a ha d hdn hd c (h.2.1 d hdn c (ubit_lt64 hbig hc) hc) hc
    · have hdn := h.2.1 a ha d (ubit_lt64 hbig hd) hd
      by_cases e : d = a
      · exact .inl e
      · right
        rw [leqZ_nat]
        cases hl : lq up d a
        · rfl
        · have := h.2.2.2.1 a ha d hdn (Ne.symm e) hd
          rw [(lq_iff.1 hl).2.2.2] at this
          cases this

set_option maxHeartbeats 1000000 in
theorem laCheck_any (up : List Nat) (A : Option Addr) (n c : Nat) (w : World) (ht : Base3 w) (h : ArgU w A n c up) (hn : n ≤ 1000000) :
    Calls Tryz.prog 33 #[.slice A n c] w (BoolEnd (checkB up) w) := by
  by_cases h1 : 1 ≤ n
  · by_cases h64 : n ≤ 64
    · have HO := Lib.hid (isOrder_any up A n c w ht h h64)
      have HB := Lib.hid (fun (w1 : World) (hb : Below w.heap.size w w1) => hasBounds_any up A n c w1 (ht.below hb) (h.below hb) h64)
      have HC := Lib.hid (check_is h.big (by have := h.len; omega) (by have := h.len; omega))
      generalize orderB up = o at HO HC
      generalize boundsB up = b at HB HC
      clear ht h
      cases o
      · clear HB
        go_enter Tryz.func33, Tryz.ntmps33
        go_wp2_with (go_at_call 63; (with_reducible refine HO.out.mono ?_); rintro e w1 ⟨rfl, h2⟩; have B1 := Lib.hid h2; clear h2)
        go_ret
        exact ⟨ret_bool HC.out, B1.out⟩
      · go_enter Tryz.func33, Tryz.ntmps33
        go_wp2_with (first
          | (go_at_call 63; (with_reducible refine HO.out.mono ?_); rintro e w1 ⟨rfl, h2⟩; have B1 := Lib.hid h2; clear h2)
          | (go_at_call 64; (with_reducible refine (HB.out _ B1.out).mono ?_); rintro e w2 ⟨rfl, h3⟩; have B2 := Lib.hid (below_step B1.out h3); clear h3))
        go_ret
        exact ⟨ret_bool HC.out, B2.out⟩
    · have HC := Lib.hid (checkB_no (up := up) (fun hh => by have := hh.1.2; have := h.len; omega))
      clear ht h
      go_enter Tryz.func33, Tryz.ntmps33
      go_wp2
      go_ret
      exact ⟨ret_bool HC.out.symm, Below.refl _ _⟩
  · have HC := Lib.hid (checkB_no (up := up) (fun hh => by have := hh.1.1; have := h.len; omega))
    clear ht h
    go_enter Tryz.func33, Tryz.ntmps33
    go_wp2
    go_ret
    exact ⟨ret_bool HC.out.symm, Below.refl _ _⟩

end Go.Proofs.YtglkmpglpddfdaaGreatDoor
end

section
namespace Go.Proofs.YtglkmpglpddfdaaGreatDoor
open Go.RowKit
set_option linter.unusedVariables false

def Base4 (w : World) : Prop := True
theorem Base4.below {w w' : World} (h : Base4 w) (hb : Below w.heap.size w w') : Base4 w' := trivial

theorem isNaN_any (a : Int) (w : World) : Calls Tryz.prog 103 #[.int .i64 a] w fun e w' => e = .returned (.bool false) ∧ w = w' := by
  have q : (a != a) = false := by simp
  go_enter Tryz.func103, Tryz.ntmps103
  go_wp2
  go_ret
  exact ⟨rfl, rfl⟩
def cmpZ (a b : Int) : Int := if a < b then -1 else if b < a then 1 else 0
theorem compare_any (a b : Int) (w : World) : Calls Tryz.prog 56 #[.int .i64 a, .int .i64 b] w fun e w' => e = .returned (.int .i64 (cmpZ a b)) ∧ w = w' := by
  have HN := Lib.hid (fun a w1 => isNaN_any a w1)
  by_cases h1 : a < b
  · have HE : Hid (cmpZ a b = -1) := Lib.hid (by simp [cmpZ, h1])
    have e1 : decide (a < b) = true := by simp [h1]
    clear h1
    go_enter Tryz.func56, Tryz.ntmps56
    go_wp2_with (go_at_call 103; (with_reducible refine (HN.out _ _).mono ?_); rintro e w' ⟨rfl, rfl⟩)
    go_ret
    exact ⟨ret_i64 HE.out.symm, rfl⟩
  · have e1 : decide (a < b) = false := by simp; omega
    by_cases h2 : b < a
    · have HE : Hid (cmpZ a b = 1) := Lib.hid (by simp [cmpZ, h1, h2])
      have e2 : decide (b < a) = true := by simp [h2]
      clear h1 h2
      go_enter Tryz.func56, Tryz.ntmps56
      go_wp2_with (go_at_call 103; (with_reducible refine (HN.out _ _).mono ?_); rintro e w' ⟨rfl, rfl⟩)
      go_ret
      exact ⟨ret_i64 HE.out.symm, rfl⟩
    · have HE : Hid (cmpZ a b = 0) := Lib.hid (by simp [cmpZ, h1, h2])
      have e2 : decide (b < a) = false := by simp; omega
      clear h1 h2
      go_enter Tryz.func56, Tryz.ntmps56
      go_wp2_with (go_at_call 103; (with_reducible refine (HN.out _ _).mono ?_); rintro e w' ⟨rfl, rfl⟩)
      go_ret
      exact ⟨ret_i64 HE.out.symm, rfl⟩

def orZ : List Int → Int
  | [] => 0
  | x :: l => if x = 0 then orZ l else x
theorem orZ_at (l : List Int) (k : Nat) (hk : k < l.length) (h0 : ∀ j (h : j < l.length), j < k → l[j] = 0) (h : l[k] ≠ 0) : orZ l = l[k] := by
  induction l generalizing k with
  | nil => simp at hk
  | cons x l ih =>
    cases k with
    | zero => simp only [List.getElem_cons_zero] at h ⊢; simp [orZ, h]
    | succ k =>
      have e : x = 0 := h0 0 (by simp) (by omega)
      have hk' : k < l.length := by simpa using hk
      simp only [List.getElem_cons_succ] at h ⊢
      rw [← ih k hk' (fun j hj hjk => by have := h0 (j + 1) (by simp; omega) (by omega); simpa using this) h]
      simp [orZ, e]
theorem orZ_none (l : List Int) (h0 : ∀ j (h : j < l.length), l[j] = 0) : orZ l = 0 := by
  induction l with
  | nil => rfl
  | cons x l ih =>
    have e : x = 0 := h0 0 (by simp)
    rw [← ih (fun j hj => by have := h0 (j + 1) (by simp; omega); simpa using this)]
    simp [orZ, e]
theorem Reads.zat {w : World} {A : Option Addr} {l : List Int} (h : Reads w A (l.map (Value.int .i64))) {i : Nat} (hi : i < l.length) :
    ∃ g off, A = some ⟨g, off, none⟩ ∧ w.cell? ⟨g, off + i, none⟩ = some (.int .i64 l[i]) := by
  obtain ⟨g, off, hA, hc⟩ := h (by simpa using Nat.lt_of_le_of_lt (Nat.zero_le _) hi)
  exact ⟨g, off, hA, hc _ _ (by simp [hi])⟩
set_option maxHeartbeats 1000000 in
theorem cmpOr_any (l : List Int) (A : Option Addr) (n c : Nat) (w : World) (hn : n = l.length) (h : Reads w A (l.map (Value.int .i64))) (hm : n ≤ 1000) :
    Calls Tryz.prog 55 #[.slice A n c] w fun e w' => e = .returned (.int .i64 (orZ l)) ∧ w = w' := by
  have HR := Lib.hid h
  have HN := Lib.hid hn
  clear h hn
  go_enter Tryz.func55, Tryz.ntmps55
  go_wp2
  go_loopw [8] (fun i wr => ∃ k : Nat, k ≤ n ∧ i = .int .i64 k ∧ (∀ j (h : j < l.length), j < k → l[j] = 0) ∧ w = wr) (fun i _ => n - (intOf i).toNat)
  case atStart => exact ⟨0, Nat.zero_le _, rfl, fun j _ h => absurd h (by omega), rfl⟩
  case round =>
    obtain ⟨k, hk, rfl, hj, rfl⟩ := hrel
    have HJ := Lib.hid hj
    clear hj
    by_cases hlt : k < n
    · have hkl : k < l.length := by have := HN.out; omega
      obtain ⟨b, off, rfl, c1⟩ := HR.out.zat hkl
      have i0 : (0 : Int) ≤ (k : Int) := by omega
      have i1 : (k : Int) < (n : Int) := by omega
      by_cases h0 : l[k] = 0
      · have HX : Hid (∀ j (h : j < l.length), j < k + 1 → l[j] = 0) := Lib.hid (fun j h hj => by
          by_cases e2 : j = k
          · subst e2; exact h0
          · exact HJ.out j h (by omega))
        rw [h0] at c1
        clear h0
        clear hkl
        go_wp2
        go_roundw
        case rel => exact ⟨k + 1, by omega, by go_num, HX.out, by first | rfl | trivial⟩
        case measure => simp [intOf]; omega
      · have HX : Hid (orZ l = l[k]) := Lib.hid (orZ_at l k hkl HJ.out h0)
        have q := int_bne_t h0
        clear h0
        generalize l[k] = x at c1 HX q
        clear hkl
        go_wp2
        go_ret
        exact ⟨ret_i64 HX.out.symm, rfl⟩
    · obtain rfl : k = n := by omega
      have HQ : Hid (orZ l = 0) := Lib.hid (orZ_none l (fun j hj => HJ.out j hj (by have := HN.out; omega)))
      go_wp2
      go_ret
      exact ⟨ret_i64 HQ.out.symm, rfl⟩

theorem less_cmp (g h : G) : decide (orZ [cmpZ g.a h.a, cmpZ g.f h.f, cmpZ g.t h.t] < 0) = lessG g h := by
  unfold lessG orZ cmpZ
  by_cases h1 : g.a < h.a
  · simp [h1]; omega
  · by_cases h2 : h.a < g.a
    · simp [h1, h2]; omega
    · have e : g.a = h.a := by omega
      by_cases h3 : g.f < h.f
      · simp [h3, e, orZ]; omega
      · by_cases h4 : h.f < g.f
        · simp [h3, h4, e, orZ]; omega
        · have e2 : g.f = h.f := by omega
          by_cases h5 : g.t < h.t
          · simp [h5, e, e2, orZ]
          · by_cases h6 : h.t < g.t
            · simp [h5, h6, e, e2, orZ]
            · simp [h5, h6, e, e2, orZ]

theorem reads_made3 (w : World) (x y z : Int) : Reads (w.alloc (.cells #[.int .i64 x, .int .i64 y, .int .i64 z] 3)) (some ⟨w.heap.size, 0, none⟩) ([x, y, z].map (Value.int .i64)) := fun _ => ⟨w.heap.size, 0, rfl, fun j u hj => by
    rw [World.cell?_alloc_mark]
    simpa using hj⟩
set_option maxRecDepth 100000 in
set_option maxHeartbeats 2000000 in
theorem gLess_any (g h : G) (w : World) (ht : Base4 w) : Calls Tryz.prog 21 #[gV g, gV h] w (BoolEnd (lessG g h) w) := by
  obtain ⟨W, hW⟩ : ∃ W, ((w.alloc (.cells #[.int .i64 g.a, .int .i64 g.f, .int .i64 g.t] 45)).alloc (.cells #[.int .i64 h.a, .int .i64 h.f, .int .i64 h.t] 45)) = W := ⟨_, rfl⟩
  have hb : Below w.heap.size w W := hW ▸ (((Below.refl _ w).alloc (Nat.le_refl _) _).alloc (by simp) _)
  have h1 : Has W w.heap.size 45 #[.int .i64 g.a, .int .i64 g.f, .int .i64 g.t] := hW ▸ (Has.made w 45 #[.int .i64 g.a, .int .i64 g.f, .int .i64 g.t]).alloc _
  have h2 : Has W (w.heap.size + 1) 45 #[.int .i64 h.a, .int .i64 h.f, .int .i64 h.t] := by
    have := Has.made (w.alloc (.cells #[.int .i64 g.a, .int .i64 g.f, .int .i64 g.t] 45)) 45 #[.int .i64 h.a, .int .i64 h.f, .int .i64 h.t]
    rw [hW] at this
    simpa using this
  have HB := Lib.hid hb
  have HE := Lib.hid (less_cmp g h)
  have HC := Lib.hid (fun W' (h' : Below W.heap.size W W') => two_boxes h1 h2 h')
  clear hb h1 h2
  unfold gV
  obtain ⟨a, f, t⟩ := g
  obtain ⟨a', f', t'⟩ := h
  simp only at HE hW HC ⊢
  have C1 := Lib.hid (fun w1 => compare_any a a' w1)
  have C2 := Lib.hid (fun w1 => compare_any f f' w1)
  have C3 := Lib.hid (fun w1 => compare_any t t' w1)
  generalize cmpZ a a' = x1 at HE C1
  generalize cmpZ f f' = x2 at HE C2
  generalize cmpZ t t' = x3 at HE C3
  have HO := Lib.hid (fun (p : Nat) (w1 : World) (h1 : Reads w1 (some ⟨p, 0, none⟩) ([x1, x2, x3].map (Value.int .i64))) => cmpOr_any [x1, x2, x3] (some ⟨p, 0, none⟩) 3 3 w1 rfl h1 (by omega))
  generalize orZ [x1, x2, x3] = z at HE HO
  generalize lessG ⟨a, f, t⟩ ⟨a', f', t'⟩ = r at HE ⊢
  have BD : Below W.heap.size W W.drew := (Below.refl _ _).drew
  have hS := HC.out _ BD
  go_enter Tryz.func21, Tryz.ntmps21
  go_wp2
  try rw [hW]
  go_region_held (fun w' => (w'.cell? ⟨w.heap.size, 0, none⟩ = some (.int .i64 a) ∧ w'.cell? ⟨w.heap.size, 1, none⟩ = some (.int .i64 f) ∧ w'.cell? ⟨w.heap.size, 2, none⟩ = some (.int .i64 t)) ∧
      w'.cell? ⟨w.heap.size + 1, 0, none⟩ = some (.int .i64 a') ∧ w'.cell? ⟨w.heap.size + 1, 1, none⟩ = some (.int .i64 f') ∧ w'.cell? ⟨w.heap.size + 1, 2, none⟩ = some (.int .i64 t')) (first | exact hS | assumption | (refine HC.out _ ?_; (repeat (first | exact BD | exact Below.refl _ _ | refine below_step ?_ (by assumption) | refine below_alloc1 ?_ _ (Nat.le_refl _) | refine Below.drew ?_)))) (first
    | (go_at_call 56; (with_reducible refine (C1.out _).mono ?_); rintro e w1 ⟨rfl, rfl⟩)
    | (go_at_call 56; (with_reducible refine (C2.out _).mono ?_); rintro e w1 ⟨rfl, rfl⟩)
    | (go_at_call 56; (with_reducible refine (C3.out _).mono ?_); rintro e w1 ⟨rfl, rfl⟩)
    | (go_at_call 55; (with_reducible refine (HO.out _ _ ?_).mono ?_); (first | exact reads_made3 _ _ _ _ | exact (reads_made3 _ _ _ _).drew); rintro e w1 ⟨rfl, rfl⟩))
  all_goals
    go_wp2
    go_ret
    exact ⟨ret_bool HE.out, below_step HB.out (by (repeat (first | exact BD | exact Below.refl _ _ | refine below_alloc1 ?_ _ (Nat.le_refl _) | refine Below.drew ?_)))⟩

set_option maxHeartbeats 1000000 in
theorem gFits_any (up : List Nat) (A : Option Addr) (n c : Nat) (g : G) (w : World) (ht : Base4 w) (L : IsLat up) (hu : ArgU w A n c up) :
    Calls Tryz.prog 69 #[.slice A n c, gV g] w (BoolEnd (fitsG up g) w) := by
  have HL := Lib.hid (fun w1 (h1 : Below w.heap.size w w1) (a b : Int) (v : Bool) (hv : leqZ up a b = v) => show Calls Tryz.prog 42 #[.slice A n c, .int .i64 a, .int .i64 b] w1 (BoolEnd v w1) by
    have := leq_any up A n c a b w1 (hu.below h1)
    rwa [hv] at this)
  obtain ⟨W, hW⟩ : ∃ W, w.alloc (.cells #[.int .i64 g.a, .int .i64 g.f, .int .i64 g.t] 45) = W := ⟨_, rfl⟩
  have hb : Below w.heap.size w W := hW ▸ (Below.refl _ w).alloc (Nat.le_refl _) _
  have h1 : Has W w.heap.size 45 #[.int .i64 g.a, .int .i64 g.f, .int .i64 g.t] := hW ▸ Has.made w 45 #[.int .i64 g.a, .int .i64 g.f, .int .i64 g.t]
  have HB := Lib.hid hb
  have HC := Lib.hid (fun W' (h' : Below w.heap.size w W') (hh : Below W.heap.size W W') => (two_boxes h1 h1 hh).1)
  clear hu hb
  unfold gV
  obtain ⟨a, f, t⟩ := g
  simp only at HC h1 hW ⊢
  obtain ⟨v1, hv1⟩ : ∃ v, leqZ up f a = v := ⟨_, rfl⟩
  obtain ⟨v2, hv2⟩ : ∃ v, leqZ up t a = v := ⟨_, rfl⟩
  obtain ⟨v3, hv3⟩ : ∃ v, leqZ up f t = v := ⟨_, rfl⟩
  have HE : Hid (fitsG up ⟨a, f, t⟩ = (v1 && v2 && !v3)) := Lib.hid (by simp [fitsG, hv1, hv2, hv3])
  have Q1 := Lib.hid (fun w1 h1 => HL.out w1 h1 f a v1 hv1)
  have Q2 := Lib.hid (fun w1 h1 => HL.out w1 h1 t a v2 hv2)
  have Q3 := Lib.hid (fun w1 h1 => HL.out w1 h1 f t v3 hv3)
  have R0 := Lib.hid (Below.refl W.heap.size W)
  obtain ⟨s1, s2, s3⟩ := HC.out _ HB.out R0.out
  clear hv1 hv2 hv3 h1 HL
  cases v1 <;> cases v2 <;> cases v3
  all_goals
    go_enter Tryz.func69, Tryz.ntmps69
    go_wp2_with (first
      | (go_at_call 42; (with_reducible refine (Q1.out _ HB.out).mono ?_); rintro e w1 ⟨rfl, h1⟩; have B1 := Lib.hid (below_step HB.out h1); have R1 := Lib.hid (below_step R0.out h1); clear s1 s2 s3; obtain ⟨s1, s2, s3⟩ := HC.out _ B1.out R1.out; clear h1)
      | (go_at_call 42; (with_reducible refine (Q2.out _ B1.out).mono ?_); rintro e w2 ⟨rfl, h1⟩; have B2 := Lib.hid (below_step B1.out h1); have R2 := Lib.hid (below_step R1.out h1); clear s1 s2 s3; obtain ⟨s1, s2, s3⟩ := HC.out _ B2.out R2.out; clear h1)
      | (go_at_call 42; (with_reducible refine (Q3.out _ B2.out).mono ?_); rintro e w3 ⟨rfl, h1⟩; have B3 := Lib.hid (below_step B2.out h1); clear h1))
    go_ret
    exact ⟨ret_bool HE.out.symm, by first | exact B3.out | exact B2.out | exact B1.out⟩

end Go.Proofs.YtglkmpglpddfdaaGreatDoor
end
