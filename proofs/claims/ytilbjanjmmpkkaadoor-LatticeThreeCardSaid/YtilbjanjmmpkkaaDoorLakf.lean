/- Package lattice: hasBounds: contract, no statement. -/
import Derived.Test.YtilbjanjmmpkkaaDoorLakc
import Derived.Test.YtilbjanjmmpkkaaDoorLatc
namespace Go.Proofs.YtilbjanjmmpkkaaDoor
open Go.RowKit
set_option linter.unusedVariables false

def downs (up : List Nat) (p : Nat) : List Nat := (List.range up.length).map fun i : Nat => if i < p then downN up (i : Int) else 0
theorem downs_len (up : List Nat) (p : Nat) : (downs up p).length = up.length := by simp [downs]
theorem downs_next (up : List Nat) (p : Nat) : downs up (p + 1) = (downs up p).set p (downN up (p : Int)) := by
  apply List.ext_getElem (by simp [downs])
  intro i h1 h2
  rw [List.getElem_set]
  simp only [downs, List.getElem_map, List.getElem_range]
  by_cases e : p = i
  · subst e; simp
  · rw [if_neg e]
    by_cases h : i < p
    · rw [if_pos h, if_pos (by omega)]
    · rw [if_neg h, if_neg (by omega)]
theorem downs_zero (up : List Nat) : downs up 0 = List.replicate up.length 0 := by
  apply List.ext_getElem (by simp [downs])
  intro i h1 h2
  simp [downs]
theorem downs_all (up : List Nat) : downs up up.length = turnedN up := by
  unfold downs turnedN
  apply List.map_congr_left
  intro i hi
  rw [if_pos (by simpa using hi)]
theorem has_argU {w : World} {g n : Nat} {l : List Nat} (h : Has w g 25 (l.map u64V).toArray) (hn : n = l.length) (hm : n ≤ maxLen) (hb : ∀ x ∈ l, x < 2 ^ 64) : ArgU w (some ⟨g, 0, none⟩) n n l :=
  ⟨hn, fun _ => ⟨g, 0, rfl, fun i v hv => by rw [Nat.zero_add, h.cell]; simpa using hv⟩, fun _ a ha => by injection ha with ha; subst ha; exact h.lt, Nat.le_refl _, hm, hb⟩
/-- Each two labels have both bounds. -/
def boundsB (up : List Nat) : Bool := (List.range up.length).all fun a => (List.range a).all fun b => decide (0 ≤ joinN up a b) && decide (0 ≤ meetN up a b)
def OkJM (up : List Nat) (a b : Nat) : Prop := 0 ≤ joinN up a b ∧ 0 ≤ meetN up a b
theorem bounds_iff (up : List Nat) : boundsB up = true ↔ ∀ a, a < up.length → ∀ b, b < a → OkJM up a b := by
  unfold boundsB OkJM
  simp only [List.all_eq_true, List.mem_range, Bool.and_eq_true, decide_eq_true_eq]
theorem bounds_no {up : List Nat} {a b : Nat} (ha : a < up.length) (hb : b < a) (h : ¬ OkJM up a b) : boundsB up = false := by
  cases e : boundsB up
  · rfl
  · exact absurd ((bounds_iff up).1 e a ha b hb) h

set_option maxRecDepth 100000 in
set_option maxHeartbeats 2000000 in
theorem hasBounds_any (up : List Nat) (A : Option Addr) (n c : Nat) (w : World) (ht : Base3 w) (h : ArgU w A n c up) (hn : n ≤ 64) :
    Calls Tryd.prog 38 #[.slice A n c] w (BoolEnd (boundsB up) w) := by
  have HT := Lib.hid ht
  have HA := Lib.hid h
  have HN := Lib.hid h.len
  have HD := Lib.hid (fun (wr : World) (hb : Below w.heap.size w wr) (a : Int) => down_any up A n c a wr (h.below hb) (by omega))
  have hmk := make_u64s n (by omega)
  clear ht h
  go_enter Tryd.func38, Tryd.ntmps38
  go_wp2
  go_loopw [12] (fun i wr => ∃ p : Nat, p ≤ n ∧ i = .int .i64 p ∧ Has wr w.heap.size 25 ((downs up p).map u64V).toArray ∧ Below w.heap.size w wr) (fun i _ => n - (intOf i).toNat)
  case atStart => exact ⟨0, Nat.zero_le _, rfl, by rw [downs_zero, ← HN.out, ← made_u64]; exact Has.made _ _ _, (Below.refl _ _).alloc (Nat.le_refl _) _⟩
  case round =>
    obtain ⟨p, hp, rfl, hh, hb⟩ := hrel
    have HH := Lib.hid hh
    have HB := Lib.hid hb
    clear hh hb
    by_cases hpn : p < n
    · have hbl : p < (downs up p).length := by rw [downs_len, ← HN.out]; exact hpn
      have HE := Lib.hid (downs_next up p)
      have HDp := Lib.hid (HD.out wr HB.out (p : Int))
      generalize downN up (p : Int) = y at HE HDp
      have i0 : (0 : Int) ≤ (p : Int) := by omega
      have i1 : (p : Int) < (n : Int) := by omega
      go_wp2_with (go_at_call 12; refine HDp.out.mono ?_; rintro e w1 ⟨rfl, h1⟩; have H1 := Lib.hid (HH.out.below h1 HH.out.lt); have B1 := Lib.hid (below_step HB.out h1); have cq := way_cell H1.out hbl; have fq := H1.out.free p; clear h1)
      go_roundw
      case rel => exact ⟨p + 1, by omega, by go_num, by rw [HE.out]; exact way_store H1.out p y, B1.out.setCell (p := ⟨w.heap.size, p, none⟩) (Nat.le_refl _) _⟩
      case measure => simp [intOf]; omega
    · obtain rfl : p = n := by omega
      have hal : downs up p = turnedN up := by
        have := downs_all up
        rwa [← HN.out] at this
      have HW := HH.out
      rw [hal] at HW
      have HTU := Lib.hid (has_argU (n := p) HW (by rw [turnedN_len]; exact HN.out) (by unfold maxLen; omega) (turnedN_big up (by have := HN.out; omega)))
      clear hal HW HD HH
      obtain ⟨wb, hwb⟩ : ∃ wb : World, wb = wr := ⟨_, rfl⟩
      subst hwb
      have HJ := Lib.hid (fun (w1 : World) (hb : Below wb.heap.size wb w1) (a b : Nat) => laJoin_any up A p c a b w1 (HT.out.below (below_step HB.out hb)) (HA.out.below (below_step HB.out hb)) (by omega))
      have HM := Lib.hid (fun (w1 : World) (hb : Below wb.heap.size wb w1) (a b : Nat) => laJoin_any (turnedN up) (some ⟨w.heap.size, 0, none⟩) p p a b w1 (HT.out.below (below_step HB.out hb)) (HTU.out.below hb) (by omega))
      have HJT := Lib.hid (fun (a b : Nat) => join_turned up (by have := HN.out; omega) (a : Int) (b : Int))
      clear HTU HA HT
      go_wp2
      go_loopw [24] (fun i wr => ∃ a : Nat, a ≤ p ∧ i = .int .i64 a ∧ (∀ a', a' < a → ∀ b, b < a' → OkJM up a' b) ∧ Below wb.heap.size wb wr) (fun i _ => p - (intOf i).toNat)
      case atStart => exact ⟨0, Nat.zero_le _, rfl, fun a' h => absurd h (by omega), Below.refl _ _⟩
      case round =>
        obtain ⟨a, ha, rfl, hok, hb⟩ := hrel
        have HO := Lib.hid hok
        have HB2 := Lib.hid hb
        clear hok hb
        by_cases hap : a < p
        · obtain ⟨w3, hw3⟩ : ∃ w3 : World, w3 = wr := ⟨_, rfl⟩
          subst hw3
          go_wp2
          go_loopw [28] (fun i wr => ∃ b : Nat, b ≤ a ∧ i = .int .i64 b ∧ (∀ b', b' < b → OkJM up a b') ∧ Below wb.heap.size wb wr) (fun i _ => a - (intOf i).toNat)
          case atStart => exact ⟨0, Nat.zero_le _, rfl, fun b' h => absurd h (by omega), HB2.out⟩
          case round =>
            obtain ⟨b, hbl, rfl, hokb, hb⟩ := hrel
            have HOb := Lib.hid hokb
            have HB3 := Lib.hid hb
            clear hokb hb
            by_cases hba : b < a
            · have HJ1 := Lib.hid (HJ.out wr HB3.out a b)
              have HM1 := Lib.hid (fun w1 h => HM.out w1 h a b)
              have hjt := HJT.out a b
              rw [hjt] at HM1
              have HQ : Hid (OkJM up a b ↔ 0 ≤ joinN up a b ∧ 0 ≤ meetN up a b) := Lib.hid Iff.rfl
              have HBN : Hid (¬ OkJM up a b → boundsB up = false) := Lib.hid (fun hh => bounds_no (by have := HN.out; omega) hba hh)
              generalize joinN up a b = j at HJ1 HQ
              generalize meetN up a b = m at HM1 HQ
              clear hjt
              by_cases hj : j < 0
              · have HF : Hid (boundsB up = false) := Lib.hid (HBN.out (fun hh => by have := (HQ.out.1 hh).1; omega))
                clear HBN HQ HM1
                go_wp2_with (first
                  | (go_at_call 14; (with_reducible refine HJ1.out.mono ?_); rintro e w1 ⟨rfl, h1⟩; have B1 := Lib.hid (below_step HB3.out h1); clear h1))
                go_ret
                exact ⟨ret_bool HF.out.symm, below_step HB.out B1.out⟩
              · by_cases hm : m < 0
                · have HF : Hid (boundsB up = false) := Lib.hid (HBN.out (fun hh => by have := (HQ.out.1 hh).2; omega))
                  clear HBN HQ
                  go_wp2_with (first
                    | (go_at_call 14; (with_reducible refine HJ1.out.mono ?_); rintro e w1 ⟨rfl, h1⟩; have B1 := Lib.hid (below_step HB3.out h1); clear h1)
                    | (go_at_call 14; (with_reducible refine (HM1.out _ B1.out).mono ?_); rintro e w2 ⟨rfl, h2⟩; have B2 := Lib.hid (below_step B1.out h2); clear h2))
                  go_ret
                  exact ⟨ret_bool HF.out.symm, below_step HB.out B2.out⟩
                · have HK : Hid (OkJM up a b) := Lib.hid (HQ.out.2 ⟨by omega, by omega⟩)
                  clear HBN HQ
                  go_wp2_with (first
                    | (go_at_call 14; (with_reducible refine HJ1.out.mono ?_); rintro e w1 ⟨rfl, h1⟩; have B1 := Lib.hid (below_step HB3.out h1); clear h1)
                    | (go_at_call 14; (with_reducible refine (HM1.out _ B1.out).mono ?_); rintro e w2 ⟨rfl, h2⟩; have B2 := Lib.hid (below_step B1.out h2); clear h2))
                  go_roundw
                  case rel => exact ⟨b + 1, by omega, by go_num, fun b' hb' => by
                    by_cases e : b' = b
                    · subst e; exact HK.out
                    · exact HOb.out b' (by omega), B2.out⟩
                  case measure => simp [intOf]; omega
            · obtain rfl : b = a := by omega
              obtain ⟨w4, hw4⟩ : ∃ w4 : World, w4 = wr := ⟨_, rfl⟩
              subst hw4
              go_wp2
              go_roundw
              case rel => exact ⟨b + 1, by omega, by go_num, fun a' ha' b' hb' => by
                by_cases e : a' = b
                · subst e; exact HOb.out b' hb'
                · exact HO.out a' (by omega) b' hb', HB3.out⟩
              case measure => simp [intOf]; omega
        · obtain rfl : a = p := by omega
          have HF : Hid (boundsB up = true) := Lib.hid ((bounds_iff up).2 (by rw [← HN.out]; exact HO.out))
          obtain ⟨w4, hw4⟩ : ∃ w4 : World, w4 = wr := ⟨_, rfl⟩
          subst hw4
          go_wp2
          go_ret
          exact ⟨ret_bool HF.out.symm, below_step HB.out HB2.out⟩

end Go.Proofs.YtilbjanjmmpkkaaDoor
