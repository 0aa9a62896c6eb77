import Derived.Test.YtogcbmhcddcfkaaGreatDoorJLatq
import Derived.StillTailTactics
/- Of a claim's texts, joined: Latc. No statement but in the last. -/
namespace Go.Proofs.YtogcbmhcddcfkaaGreatDoor
open Go.RowKit
set_option linter.unusedVariables false

/-! Rows under way. -/
theorem sum_set (l : List Nat) (i v : Nat) (h : i < l.length) : (l.set i v).sum + l[i] = l.sum + v := by
  induction l generalizing i with
  | nil => simp at h
  | cons x l ih =>
    cases i with
    | zero => simp; omega
    | succ i =>
      simp at h
      have := ih i h
      simp
      omega
theorem sum_le (l : List Nat) (b : Nat) (h : ∀ x ∈ l, x ≤ b) : l.sum ≤ l.length * b := by
  induction l with
  | nil => simp
  | cons x l ih =>
    have h1 := h x (by simp)
    have h2 := ih (fun y hy => h y (by simp [hy]))
    simp [Nat.add_mul]
    omega
theorem ubit_set (o : List Nat) (a c : Nat) (h : a < o.length) (hc : ubit o a c = false) (i j : Nat) : ubit (o.set a (o[a] + 2 ^ c)) i j = (ubit o i j || (decide (i = a) && decide (j = c))) := by
  unfold ubit
  by_cases hi : i < o.length
  · rw [getD_at _ _ (by simpa using hi), getD_at _ _ hi]
    by_cases e : i = a
    · subst e
      rw [List.getElem_set_self]
      unfold ubit at hc
      rw [getD_at _ _ h] at hc
      rw [add_bit _ _ _ hc]
      simp
    · rw [List.getElem_set_ne (by omega)]
      simp [e]
  · have e : i ≠ a := by omega
    have e1 : (o.set a (o[a] + 2 ^ c)).getD i 0 = 0 := by simp only [List.getD, List.getElem?_eq_none (show (o.set a (o[a] + 2 ^ c)).length ≤ i by simp; omega), Option.getD_none]
    have e2 : o.getD i 0 = 0 := by simp only [List.getD, List.getElem?_eq_none (by omega : o.length ≤ i), Option.getD_none]
    rw [e1, e2]
    simp [e]
structure Way (up : List Nat) (o : List Nat) : Prop where
  len : o.length = up.length
  low : ∀ a b, ubit o a b = true → b < up.length
  base : ∀ a, a < up.length → ∀ b, b < up.length → (decide (a = b) || ubit up a b) = true → ubit o a b = true
  reach : ∀ a b, ubit o a b = true → Reach up a b
theorem Way.lt {up o : List Nat} (h : Way up o) : ∀ x ∈ o, x < 2 ^ up.length := by
  intro x hx
  obtain ⟨i, hi, rfl⟩ := List.getElem_of_mem hx
  apply Nat.lt_pow_two_of_testBit
  intro j hj
  cases e : o[i].testBit j
  · rfl
  · have := h.low i j (by unfold ubit; rw [getD_at _ _ hi]; exact e)
    omega
theorem Way.big {up o : List Nat} (h : Way up o) (h64 : up.length ≤ 64) : ∀ x ∈ o, x < 2 ^ 64 := fun x hx => Nat.lt_of_lt_of_le (h.lt x hx) (Nat.pow_le_pow_right (by omega) h64)
theorem Way.add {up o : List Nat} (h : Way up o) {a b c : Nat} (ha : a < o.length) (hc : c < up.length) (h1 : ubit o a b = true) (h2 : ubit o b c = true) (h3 : ubit o a c = false) : Way up (o.set a (o[a] + 2 ^ c)) := by
  refine ⟨by simp [h.len], fun i j hu => ?_, fun i hi j hj hb => ?_, fun i j hu => ?_⟩
  · rw [ubit_set o a c ha h3] at hu
    cases e : ubit o i j
    · rw [e] at hu
      simp at hu
      omega
    · exact h.low i j e
  · rw [ubit_set o a c ha h3, h.base i hi j hj hb]
    rfl
  · rw [ubit_set o a c ha h3] at hu
    cases e : ubit o i j
    · rw [e] at hu
      simp at hu
      obtain ⟨rfl, rfl⟩ := hu
      exact (h.reach _ _ h1).trans_ (h.reach _ _ h2)
    · exact h.reach i j e
theorem Way.close {up o : List Nat} (h : Way up o) (h64 : up.length ≤ 64) (hc : ∀ a, a < up.length → ∀ b, b < up.length → ∀ c, c < up.length → ubit o a b = true → ubit o b c = true → ubit o a c = true) : o = closeN up :=
  closeN_is up o h64 h.len fun a ha b => ⟨fun hu => ⟨h.low a b hu, h.reach a b hu⟩, fun ⟨hb, hr⟩ =>
    reach_of_closed up o (fun a ha => h.base a ha a ha (by simp)) (fun a ha b hb hu => h.base a ha b hb (by simp [hu])) hc a b ha hr⟩

def baseN (up : List Nat) (p q : Nat) : List Nat := (List.range up.length).map fun i => mask (fun b => decide (i = b) || ubit up i b) (if i < p then up.length else if i = p then q else 0)
theorem baseN_len (up : List Nat) (p q : Nat) : (baseN up p q).length = up.length := by simp [baseN]
theorem baseN_at (up : List Nat) (p q i : Nat) (h : i < (baseN up p q).length) : (baseN up p q)[i] = mask (fun b => decide (i = b) || ubit up i b) (if i < p then up.length else if i = p then q else 0) := by simp [baseN]
theorem baseN_next (up : List Nat) (p : Nat) : baseN up p up.length = baseN up (p + 1) 0 := by
  unfold baseN
  apply List.map_congr_left
  intro i _
  by_cases h : i < p
  · rw [if_pos h, if_pos (by omega)]
  · rw [if_neg h]
    by_cases e : i = p
    · rw [if_pos e, if_pos (by omega)]
    · rw [if_neg e, if_neg (by omega)]
      split <;> rfl
theorem baseN_start (up : List Nat) : baseN up 0 0 = List.replicate up.length 0 := by
  apply List.ext_getElem (by simp [baseN])
  intro i h1 h2
  rw [baseN_at]
  simp
  rfl
theorem baseN_more (up : List Nat) (p q : Nat) (hp : p < up.length) (h : (decide (p = q) || ubit up p q) = false) : baseN up p (q + 1) = baseN up p q := by
  apply List.ext_getElem (by simp [baseN])
  intro i h1 h2
  rw [baseN_at, baseN_at]
  by_cases e : i < p
  · rw [if_pos e, if_pos e]
  · rw [if_neg e, if_neg e]
    by_cases e2 : i = p
    · subst e2
      rw [if_pos rfl, if_pos rfl, mask_more, h]
      rfl
    · rw [if_neg e2, if_neg e2]
theorem baseN_add (up : List Nat) (p q : Nat) (hp : p < (baseN up p q).length) (h : (decide (p = q) || ubit up p q) = true) : baseN up p (q + 1) = (baseN up p q).set p ((baseN up p q)[p] + 2 ^ q) := by
  apply List.ext_getElem (by simp [baseN])
  intro i h1 h2
  by_cases e2 : i = p
  · subst e2
    rw [List.getElem_set_self, baseN_at, baseN_at, if_neg (by omega), if_pos rfl, if_neg (by omega), if_pos rfl, mask_more, h]
    rfl
  · rw [List.getElem_set_ne (by omega), baseN_at, baseN_at]
    by_cases e : i < p
    · rw [if_pos e, if_pos e]
    · rw [if_neg e, if_neg e, if_neg e2, if_neg e2]
theorem baseN_way (up : List Nat) : Way up (baseN up up.length 0) := by
  have hb : ∀ a b, ubit (baseN up up.length 0) a b = true ↔ a < up.length ∧ b < up.length ∧ (decide (a = b) || ubit up a b) = true := by
    intro a b
    unfold ubit
    by_cases ha : a < up.length
    · rw [getD_at _ _ (by rw [baseN_len]; exact ha), baseN_at, if_pos ha, mask_bit]
      simp [ha, ubit]
    · rw [show (baseN up up.length 0).getD a 0 = 0 by simp [List.getD, List.getElem?_eq_none (show (baseN up up.length 0).length ≤ a by rw [baseN_len]; omega)]]
      simp [ha]
  refine ⟨baseN_len _ _ _, fun a b h => ((hb a b).1 h).2.1, fun a ha b hbn h => (hb a b).2 ⟨ha, hbn, h⟩, fun a b h => ?_⟩
  obtain ⟨h1, h2, h3⟩ := (hb a b).1 h
  by_cases e : a = b
  · subst e; exact .refl a
  · exact .step h1 h2 (.refl a) (by simpa [e] using h3)

theorem make_u64s (n : Nat) (hn : n ≤ 1000000) (w : World) : (Instr.makeSlice 24 (.int .i64 n) (.int .i64 n)).run Tryz.prog w = .ok (.slice (some ⟨w.heap.size, 0, none⟩) n n) (w.alloc (.cells (madeCells #[.int .u64 0] n) 40)) := by
  obtain ⟨i0, hi, hz0, hz1, hz2⟩ := info_parts u64info
  have := run_make (P := Tryz.prog) (w := w) 24 40 i0 (.int .u64 0) Tryz.underlying24 hi hz0 .i64 .i64 n n (by omega) (by omega) (by rw [hz2]; omega) (by omega)
  simp only [Int.toNat_natCast, hz1, Nat.mul_one] at this
  exact this
theorem made_u64 (n : Nat) : madeCells #[.int .u64 0] n = ((List.replicate n 0).map u64V).toArray := by
  apply Array.ext'
  rw [toList_madeCells_one]
  simp [u64V]
theorem way_cell {w : World} {g : Nat} {o : List Nat} (h : Has w g 40 (o.map u64V).toArray) {i : Nat} (hi : i < o.length) : w.cell? ⟨g, i, none⟩ = some (.int .u64 (o[i] : Int)) := by
  rw [h.cell]
  simp [List.getElem?_eq_getElem hi, u64V]
theorem way_store {w : World} {g : Nat} {o : List Nat} (h : Has w g 40 (o.map u64V).toArray) (i v : Nat) : Has (w.setCell ⟨g, i, none⟩ (.int .u64 (v : Int))) g 40 ((o.set i v).map u64V).toArray := by
  have := h.store i (.int .u64 (v : Int))
  have e : ((o.set i v).map u64V).toArray = (o.map u64V).toArray.setIfInBounds i (.int .u64 (v : Int)) := by
    rw [List.map_set]
    simp [u64V]
  rw [e]
  exact this
def cellN (v : Value) : Nat := match v with
  | .int _ x => x.toNat
  | _ => 0
def sumW (w : World) (g : Nat) : Nat := match w.heap[g]? with
  | some (.cells cs _ _) => (cs.toList.map cellN).sum
  | _ => 0
theorem sumW_is {w : World} {g : Nat} {o : List Nat} (h : Has w g 40 (o.map u64V).toArray) : sumW w g = o.sum := by
  unfold sumW
  unfold Has at h
  rw [h]
  simp only [List.map_map]
  congr 1
  rw [List.map_congr_left (g := id) (fun x _ => by simp [cellN, u64V])]
  simp
def boolN (v : Value) : Nat := match v with
  | .bool true => 1
  | _ => 0
def Round (o0 : List Nat) (m : Bool) (o : List Nat) (C : Prop) : Prop := (m = true ∧ o0.sum < o.sum) ∨ (m = false ∧ o = o0 ∧ C)
theorem Round.imp {o0 o : List Nat} {m : Bool} {C D : Prop} (h : Round o0 m o C) (hc : o = o0 → C → D) : Round o0 m o D := by
  rcases h with h | ⟨h1, h2, h3⟩
  · exact .inl h
  · exact .inr ⟨h1, h2, hc h2 h3⟩
theorem Round.le {o0 o : List Nat} {m : Bool} {C : Prop} (h : Round o0 m o C) : o0.sum ≤ o.sum := by
  rcases h with ⟨_, h⟩ | ⟨_, h, _⟩
  · omega
  · rw [h]; exact Nat.le_refl _
def Cl (o : List Nat) (a b c : Nat) : Prop := ubit o a b = true → ubit o b c = true → ubit o a c = true
def RowsW (up : List Nat) (w wr : World) (o : List Nat) : Prop := Way up o ∧ Has wr w.heap.size 40 (o.map u64V).toArray ∧ Below w.heap.size w wr

set_option maxRecDepth 100000 in
set_option maxHeartbeats 2000000 in
theorem r3Close_new (up : List Nat) (A : Option Addr) (n c : Nat) (w : World) (h : ArgU w A n c up) (hn : n ≤ 64) :
    Calls Tryz.prog 28 #[.slice A n c] w fun e w' => ∃ A' c', e = .returned (.slice A' n c') ∧ ArgU w' A' n c' (closeN up) ∧ Below w.heap.size w w' ∧ ∃ g, A' = some ⟨g, 0, none⟩ ∧ w.heap.size ≤ g := by
  have HA := Lib.hid h
  have HN := Lib.hid h.len
  have hmk := make_u64s n (by omega)
  clear h
  have e0 : decide (64 < (n : Int)) = false := by simp; omega
  go_enter Tryz.func28, Tryz.ntmps28
  go_wp2
  go_loopw [4] (fun i wr => ∃ p : Nat, p ≤ n ∧ i = .int .i64 p ∧ Has wr w.heap.size 40 ((baseN up p 0).map u64V).toArray ∧ Below w.heap.size w wr) (fun i _ => n - (intOf i).toNat)
  case atStart => exact ⟨0, Nat.zero_le _, rfl, by rw [baseN_start, ← HN.out, ← made_u64]; exact Has.made _ _ _, (Below.refl _ _).alloc (Nat.le_refl _) _⟩
  case round =>
    obtain ⟨p, hp, rfl, hh, hb⟩ := hrel
    have HH := Lib.hid hh
    have HB := Lib.hid hb
    clear hh hb
    by_cases hpn : p < n
    · obtain ⟨w3, hw3⟩ : ∃ w3 : World, w3 = wr := ⟨_, rfl⟩
      subst hw3
      go_wp2
      go_loopw [5] (fun i wr => ∃ q : Nat, q ≤ n ∧ i = .int .i64 q ∧ Has wr w.heap.size 40 ((baseN up p q).map u64V).toArray ∧ Below w.heap.size w wr) (fun i _ => n - (intOf i).toNat)
      case atStart => exact ⟨0, Nat.zero_le _, rfl, HH.out, HB.out⟩
      case round =>
        obtain ⟨q, hq, rfl, hh, hb⟩ := hrel
        have HH2 := Lib.hid hh
        have HB2 := Lib.hid hb
        clear hh hb
        by_cases hqn : q < n
        · have hpl : p < up.length := by have := HN.out; omega
          obtain ⟨g, off, rfl, ck⟩ := (HA.out.below HB2.out).reads.at_ hpl
          have hx := HA.out.big up[p] (List.getElem_mem hpl)
          have HBit := Lib.hid (r3Bit_any up[p] q wr hx (by omega))
          have hub : up[p].testBit q = ubit up p q := by unfold ubit; rw [getD_at _ _ hpl]
          rw [hub] at HBit
          have hbl : p < (baseN up p q).length := by rw [baseN_len]; exact hpl
          have cq := way_cell HH2.out hbl
          have fq := HH2.out.free p
          have HADD := Lib.hid (baseN_add up p q hbl)
          have HSAME := Lib.hid (baseN_more up p q hpl)
          have HST : Hid (∀ v : Nat, Has (wr.setCell ⟨w.heap.size, p, none⟩ (.int .u64 (v : Int))) w.heap.size 40 (((baseN up p q).set p v).map u64V).toArray) := Lib.hid (fun v => way_store HH2.out p v)
          have hyl : (baseN up p q)[p] < 2 ^ q := by
            rw [baseN_at, if_neg (by omega), if_pos rfl]
            exact mask_lt _ _
          generalize (baseN up p q)[p] = y at cq HADD hyl
          have HO := Lib.hid (fun w1 => r3One_any q w1 (by omega))
          have hp2 : 2 ^ q * 2 ≤ 2 ^ 64 := by
            have := Nat.pow_le_pow_right (n := 2) (by omega) (show q + 1 ≤ 64 by omega)
            rwa [Nat.pow_succ] at this
          generalize up[p] = x at ck HBit
          clear hx hub hbl hpl
          by_cases hyes : (decide (p = q) || ubit up p q) = true
          · have HE := Lib.hid (HADD.out hyes)
            clear HADD HSAME
            generalize 2 ^ q = z at hyl HO hp2 HE
            have hcase : ((p : Int) == (q : Int)) = true ∨ (((p : Int) == (q : Int)) = false ∧ ubit up p q = true) := by
              by_cases e : p = q
              · left; simp [e]
              · right
                refine ⟨beq_false_of_ne (by omega), by simpa [e] using hyes⟩
            clear hyes
            rcases hcase with q1 | ⟨q1, hu⟩
            case' inr => rw [hu] at HBit; clear hu
            all_goals
              go_wp2_with (first | (go_at_call 48; refine HBit.out.mono ?_; rintro e w' ⟨rfl, rfl⟩) | (go_at_call 63; refine (HO.out _).mono ?_; rintro e w' ⟨rfl, rfl⟩))
              have i0 : (0 : Int) ≤ (p : Int) := by omega
              have i1 : (p : Int) < (n : Int) := by omega
              go_still_tail 8, (by kernel_rfl)
              still_call ((HO.out _).mono fun _ _ ⟨he, hw⟩ => ⟨he, hw.symm⟩)
              repeat still_step
              refine wpStill_nil ?_
              have hwr : IntKind.u64.wrap ((y : Int) + (z : Int)) = ((y + z : Nat) : Int) := by
                rw [IntWalk.u64_in _ (by omega)]
                omega
              rw [hwr]
              clear hwr
              have HST2 : Hid (Has (wr.setCell ⟨w.heap.size, p, none⟩ (.int .u64 ((y + z : Nat) : Int))).drew w.heap.size 40 (((baseN up p q).set p (y + z)).map u64V).toArray ∧ Below w.heap.size w (wr.setCell ⟨w.heap.size, p, none⟩ (.int .u64 ((y + z : Nat) : Int))).drew) := Lib.hid ⟨(HST.out (y + z)).drew, (HB2.out.setCell (p := ⟨w.heap.size, p, none⟩) (Nat.le_refl _) _).drew⟩
              clear HST
              generalize y + z = s at HST2 HE ⊢
              change wpList _ _ _ _ _ wr.drew
              have cqd : wr.drew.cell? ⟨w.heap.size, p, none⟩ = some (.int .u64 (y : Int)) := cq
              have fqd : wr.drew.frozen? ⟨w.heap.size, p, none⟩ = false := fq
              go_wp2
              go_roundw
              case rel => exact ⟨q + 1, by omega, by go_num, by rw [HE.out]; exact HST2.out.1, HST2.out.2⟩
              case measure => simp [intOf]; omega
          · have hno : (decide (p = q) || ubit up p q) = false := by simpa using hyes
            have HE := Lib.hid (HSAME.out hno)
            have q1 : ((p : Int) == (q : Int)) = false := beq_false_of_ne (by
              intro e
              simp at hno
              omega)
            have hu : ubit up p q = false := by
              simp at hno
              exact hno.2
            rw [hu] at HBit
            clear hyes hno hu HADD HSAME hyl hp2 HO
            go_wp2_with (first | (go_at_call 48; refine HBit.out.mono ?_; rintro e w' ⟨rfl, rfl⟩))
            go_roundw
            case rel => exact ⟨q + 1, by omega, by go_num, by rw [HE.out]; exact HH2.out, HB2.out⟩
            case measure => simp [intOf]; omega
        · obtain rfl : q = n := by omega
          obtain ⟨w5, hw5⟩ : ∃ w5 : World, w5 = wr := ⟨_, rfl⟩
          subst hw5
          have HE : Hid (baseN up p q = baseN up (p + 1) 0) := Lib.hid (by rw [HN.out, baseN_next])
          go_wp2
          go_roundw
          case rel => exact ⟨p + 1, by omega, by go_num, by rw [← HE.out]; exact HH2.out, HB2.out⟩
          case measure => simp [intOf]; omega
    · obtain rfl : p = n := by omega
      obtain ⟨w5, hw5⟩ : ∃ w5 : World, w5 = wr := ⟨_, rfl⟩
      subst hw5
      have HW : Hid (Way up (baseN up p 0)) := Lib.hid (by have := baseN_way up; rwa [← HN.out] at this)
      have HL0 : Hid (RowsW up w w5 (baseN up p 0)) := Lib.hid ⟨HW.out, HH.out, HB.out⟩
      clear HW HH HB
      have h64 : up.length ≤ 64 := by have := HN.out; omega
      have HSM : Hid (∀ o, Way up o → o.sum ≤ p * 2 ^ 64) := Lib.hid (fun o ho => by
        have := sum_le o (2 ^ 64) (fun x hx => Nat.le_of_lt (ho.big h64 x hx))
        rw [ho.len, ← HN.out] at this
        exact this)
      go_wp2
      go_loopw [6] (fun v wr => ∃ (m : Bool) (o : List Nat), v = .bool m ∧ RowsW up w wr o ∧ (m = false → ∀ a, a < p → ∀ b, b < p → ∀ c, c < p → Cl o a b c)) (fun v wr => 2 * (p * 2 ^ 64 - sumW wr w.heap.size) + boolN v)
      case atStart => exact ⟨true, _, rfl, HL0.out, fun h => by cases h⟩
      case round =>
        obtain ⟨m, o0, rfl, hrw, hcl⟩ := hrel
        cases m
        · obtain ⟨w6, hw6⟩ : ∃ w6 : World, w6 = wr := ⟨_, rfl⟩
          subst hw6
          have HE : Hid (o0 = closeN up) := Lib.hid (hrw.1.close h64 (fun a ha b hb c hc => hcl rfl a (by have := HN.out; omega) b (by have := HN.out; omega) c (by have := HN.out; omega)))
          have HR := Lib.hid hrw
          have HOL : Hid (p = o0.length) := Lib.hid (by rw [hrw.1.len]; exact HN.out)
          clear hcl hrw
          go_wp2
          go_ret
          refine ⟨_, _, rfl, ?_, HR.out.2.2, _, rfl, Nat.le_refl _⟩
          rw [← HE.out]
          exact ⟨HOL.out, fun _ => ⟨w.heap.size, 0, rfl, fun j u hj => by rw [HR.out.2.1.cell]; simpa using hj⟩, fun _ a ha => by injection ha with ha; subst ha; exact HR.out.2.1.lt, Nat.le_refl _, by unfold maxLen; omega, HR.out.1.big h64⟩
        · have HM0 : Hid (2 * (p * 2 ^ 64 - sumW wr w.heap.size) + boolN (.bool true) = 2 * (p * 2 ^ 64 - o0.sum) + 1) := Lib.hid (by rw [sumW_is hrw.2.1]; rfl)
          have HR := Lib.hid hrw
          clear hcl hrw
          obtain ⟨w6, hw6⟩ : ∃ w6 : World, w6 = wr := ⟨_, rfl⟩
          subst hw6
          go_wp2
          go_loopw [6, 7] (fun v i wr => ∃ (m : Bool) (o : List Nat) (a : Nat), v = .bool m ∧ i = .int .i64 a ∧ a ≤ p ∧ RowsW up w wr o ∧ Round o0 m o (∀ a', a' < a → ∀ b, b < p → ∀ c, c < p → Cl o0 a' b c)) (fun _ i _ => p - (intOf i).toNat)
          case atStart => exact ⟨false, o0, 0, rfl, rfl, Nat.zero_le _, HR.out, .inr ⟨rfl, rfl, fun a ha => absurd ha (by omega)⟩⟩
          case round =>
            obtain ⟨m, o, a, rfl, rfl, ha, hrw, hrd⟩ := hrel
            by_cases hap : a < p
            · have HR1 := Lib.hid hrw
              have HD1 := Lib.hid hrd
              clear hrw hrd
              obtain ⟨w7, hw7⟩ : ∃ w7 : World, w7 = wr := ⟨_, rfl⟩
              subst hw7
              go_wp2
              go_loopw [6, 8] (fun v i wr => ∃ (m : Bool) (o : List Nat) (b : Nat), v = .bool m ∧ i = .int .i64 b ∧ b ≤ p ∧ RowsW up w wr o ∧ Round o0 m o ((∀ a', a' < a → ∀ b, b < p → ∀ c, c < p → Cl o0 a' b c) ∧ ∀ b', b' < b → ∀ c, c < p → Cl o0 a b' c)) (fun _ i _ => p - (intOf i).toNat)
              case atStart => exact ⟨m, o, 0, rfl, rfl, Nat.zero_le _, HR1.out, HD1.out.imp fun _ h => ⟨h, fun a ha => absurd ha (by omega)⟩⟩
              case round =>
                obtain ⟨m, o, b, rfl, rfl, hb, hrw, hrd⟩ := hrel
                by_cases hbp : b < p
                · have HR2 := Lib.hid hrw
                  have HD2 := Lib.hid hrd
                  clear hrw hrd
                  obtain ⟨w8, hw8⟩ : ∃ w8 : World, w8 = wr := ⟨_, rfl⟩
                  subst hw8
                  go_wp2
                  go_loopw [6, 9] (fun v i wr => ∃ (m : Bool) (o : List Nat) (c : Nat), v = .bool m ∧ i = .int .i64 c ∧ c ≤ p ∧ RowsW up w wr o ∧ Round o0 m o (((∀ a', a' < a → ∀ b, b < p → ∀ c, c < p → Cl o0 a' b c) ∧ ∀ b', b' < b → ∀ c, c < p → Cl o0 a b' c) ∧ ∀ c', c' < c → Cl o0 a b c')) (fun _ i _ => p - (intOf i).toNat)
                  case atStart => exact ⟨m, o, 0, rfl, rfl, Nat.zero_le _, HR2.out, HD2.out.imp fun _ h => ⟨h, fun a ha => absurd ha (by omega)⟩⟩
                  case round =>
                    obtain ⟨m, o, cc, rfl, rfl, hc, hrw, hrd⟩ := hrel
                    by_cases hcp : cc < p
                    · have hao : a < o.length := by rw [hrw.1.len]; have := HN.out; omega
                      have hbo : b < o.length := by rw [hrw.1.len]; have := HN.out; omega
                      have cx := way_cell hrw.2.1 hao
                      have cy := way_cell hrw.2.1 hbo
                      have hx := hrw.1.big h64 o[a] (List.getElem_mem hao)
                      have hy := hrw.1.big h64 o[b] (List.getElem_mem hbo)
                      have tx : ∀ k, o[a].testBit k = ubit o a k := fun k => by unfold ubit; rw [getD_at _ _ hao]
                      have ty : ∀ k, o[b].testBit k = ubit o b k := fun k => by unfold ubit; rw [getD_at _ _ hbo]
                      have HB1 := Lib.hid (fun w1 => r3Bit_any o[a] b w1 hx (by omega))
                      have HB2 := Lib.hid (fun w1 => r3Bit_any o[b] cc w1 hy (by omega))
                      have HB3 := Lib.hid (fun w1 => r3Bit_any o[a] cc w1 hx (by omega))
                      rw [tx b] at HB1
                      rw [ty cc] at HB2
                      rw [tx cc] at HB3
                      have HNX : Hid (¬ (ubit o a b = true ∧ ubit o b cc = true ∧ ubit o a cc = false) → Round o0 m o (((∀ a', a' < a → ∀ b, b < p → ∀ c, c < p → Cl o0 a' b c) ∧ ∀ b', b' < b → ∀ c, c < p → Cl o0 a b' c) ∧ ∀ c', c' < cc + 1 → Cl o0 a b c')) := Lib.hid (fun hne => hrd.imp fun he h => ⟨h.1, fun c' hc' => by
                        by_cases e : c' = cc
                        · subst e
                          subst he
                          intro h1 h2
                          cases h3 : ubit o a c'
                          · exact absurd ⟨h1, h2, h3⟩ hne
                          · rfl
                        · exact h.2 c' (by omega)⟩)
                      have HADD : Hid (ubit o a b = true → ubit o b cc = true → ubit o a cc = false → Way up (o.set a (o[a] + 2 ^ cc)) ∧ o0.sum < (o.set a (o[a] + 2 ^ cc)).sum ∧ o[a] + 2 ^ cc < 2 ^ 64) := Lib.hid (fun h1 h2 h3 => by
                        have hw2 := hrw.1.add hao (by have := HN.out; omega) h1 h2 h3
                        have hs := sum_set o a (o[a] + 2 ^ cc) hao
                        have hp := Nat.pow_pos (n := cc) (show 0 < 2 by omega)
                        have hl := hrd.le
                        refine ⟨hw2, by omega, ?_⟩
                        have := hw2.big h64 ((o.set a (o[a] + 2 ^ cc))[a]'(by simpa using hao)) (List.getElem_mem _)
                        rwa [List.getElem_set_self] at this)
                      have HR3 := Lib.hid hrw
                      have fx := hrw.2.1.free a
                      generalize o[a] = x at cx hx HB1 HB3 HADD
                      generalize o[b] = y at cy hy HB2
                      clear tx ty hx hy hrw hrd hao hbo
                      have i0 : (0 : Int) ≤ (a : Int) := by omega
                      have i1 : (a : Int) < (p : Int) := by omega
                      by_cases hall : ubit o a b = true ∧ ubit o b cc = true ∧ ubit o a cc = false
                      · obtain ⟨k1, k2, k3⟩ := hall
                        have HE := Lib.hid (HADD.out k1 k2 k3)
                        rw [k1] at HB1
                        rw [k2] at HB2
                        rw [k3] at HB3
                        clear HNX HADD k1 k2 k3
                        have HO := Lib.hid (fun w1 => r3One_any cc w1 (by omega))
                        have hxz := HE.out.2.2
                        have HST : Hid (∀ v : Nat, Has (wr.setCell ⟨w.heap.size, a, none⟩ (.int .u64 (v : Int))) w.heap.size 40 ((o.set a v).map u64V).toArray) := Lib.hid (fun v => way_store HR3.out.2.1 a v)
                        generalize 2 ^ cc = z at HE HO hxz
                        go_wp2_with (first | (go_at_call 48; (with_reducible refine (HB1.out _).mono ?_); rintro e w' ⟨rfl, rfl⟩) | (go_at_call 48; (with_reducible refine (HB2.out _).mono ?_); rintro e w' ⟨rfl, rfl⟩) | (go_at_call 48; (with_reducible refine (HB3.out _).mono ?_); rintro e w' ⟨rfl, rfl⟩))
                        go_still_tail 8, (by kernel_rfl)
                        still_call ((HO.out _).mono fun _ _ ⟨he, hw⟩ => ⟨he, hw.symm⟩)
                        repeat still_step
                        refine wpStill_nil ?_
                        have hwr : IntKind.u64.wrap ((x : Int) + (z : Int)) = ((x + z : Nat) : Int) := by
                          rw [IntWalk.u64_in _ (by omega)]
                          omega
                        rw [hwr]
                        clear hwr hxz
                        have HST2 : Hid (RowsW up w (wr.setCell ⟨w.heap.size, a, none⟩ (.int .u64 ((x + z : Nat) : Int))).drew (o.set a (x + z))) := Lib.hid ⟨HE.out.1, (HST.out (x + z)).drew, (HR3.out.2.2.setCell (p := ⟨w.heap.size, a, none⟩) (Nat.le_refl _) _).drew⟩
                        clear HST
                        generalize x + z = s at HST2 HE ⊢
                        change wpList _ _ _ _ _ wr.drew
                        have cqd : wr.drew.cell? ⟨w.heap.size, a, none⟩ = some (.int .u64 (x : Int)) := cx
                        have fqd : wr.drew.frozen? ⟨w.heap.size, a, none⟩ = false := fx
                        go_wp2
                        go_roundw
                        case rel => exact ⟨true, o.set a s, cc + 1, rfl, by go_num, by omega, HST2.out, .inl ⟨rfl, HE.out.2.1⟩⟩
                        case measure => simp [intOf]; omega
                      · have HE := Lib.hid (HNX.out hall)
                        clear HADD HNX
                        cases k1 : ubit o a b
                        · rw [k1] at HB1
                          clear hall k1
                          go_wp2_with (first | (go_at_call 48; (with_reducible refine (HB1.out _).mono ?_); rintro e w' ⟨rfl, rfl⟩))
                          go_roundw
                          case rel => exact ⟨m, o, cc + 1, rfl, by go_num, by omega, HR3.out, HE.out⟩
                          case measure => simp [intOf]; omega
                        · rw [k1] at HB1
                          cases k2 : ubit o b cc
                          · rw [k2] at HB2
                            clear hall k1 k2
                            go_wp2_with (first | (go_at_call 48; (with_reducible refine (HB1.out _).mono ?_); rintro e w' ⟨rfl, rfl⟩) | (go_at_call 48; (with_reducible refine (HB2.out _).mono ?_); rintro e w' ⟨rfl, rfl⟩))
                            go_roundw
                            case rel => exact ⟨m, o, cc + 1, rfl, by go_num, by omega, HR3.out, HE.out⟩
                            case measure => simp [intOf]; omega
                          · rw [k2] at HB2
                            cases k3 : ubit o a cc
                            · exact absurd ⟨k1, k2, k3⟩ hall
                            · rw [k3] at HB3
                              clear hall k1 k2 k3
                              go_wp2_with (first | (go_at_call 48; (with_reducible refine (HB1.out _).mono ?_); rintro e w' ⟨rfl, rfl⟩) | (go_at_call 48; (with_reducible refine (HB2.out _).mono ?_); rintro e w' ⟨rfl, rfl⟩) | (go_at_call 48; (with_reducible refine (HB3.out _).mono ?_); rintro e w' ⟨rfl, rfl⟩))
                              go_roundw
                              case rel => exact ⟨m, o, cc + 1, rfl, by go_num, by omega, HR3.out, HE.out⟩
                              case measure => simp [intOf]; omega
                    · obtain rfl : cc = p := by omega
                      have HR3 := Lib.hid hrw
                      have HD3 := Lib.hid hrd
                      clear hrw hrd
                      obtain ⟨w9, hw9⟩ : ∃ w9 : World, w9 = wr := ⟨_, rfl⟩
                      subst hw9
                      go_wp2
                      go_roundw
                      case rel => exact ⟨m, o, b + 1, rfl, by go_num, by omega, HR3.out, HD3.out.imp fun _ h => ⟨h.1.1, fun b' hb' c hc => by
                        by_cases e : b' = b
                        · subst e; exact h.2 c hc
                        · exact h.1.2 b' (by omega) c hc⟩⟩
                      case measure => simp [intOf]; omega
                · obtain rfl : b = p := by omega
                  have HR3 := Lib.hid hrw
                  have HD3 := Lib.hid hrd
                  clear hrw hrd
                  obtain ⟨w9, hw9⟩ : ∃ w9 : World, w9 = wr := ⟨_, rfl⟩
                  subst hw9
                  go_wp2
                  go_roundw
                  case rel => exact ⟨m, o, a + 1, rfl, by go_num, by omega, HR3.out, HD3.out.imp fun _ h a' ha' b' hb' c hc => by
                    by_cases e : a' = a
                    · subst e; exact h.2 b' hb' c hc
                    · exact h.1 a' (by omega) b' hb' c hc⟩
                  case measure => simp [intOf]; omega
            · obtain rfl : a = p := by omega
              have HR3 := Lib.hid hrw
              have HD3 := Lib.hid hrd
              have HMS := Lib.hid (sumW_is hrw.2.1)
              have HS0 := Lib.hid (HSM.out o hrw.1)
              clear hrw hrd
              obtain ⟨w9, hw9⟩ : ∃ w9 : World, w9 = wr := ⟨_, rfl⟩
              subst hw9
              go_wp2
              go_roundw
              case rel => exact ⟨m, o, rfl, HR3.out, fun hm => by
                rcases HD3.out with ⟨h1, _⟩ | ⟨_, h2, h3⟩
                · rw [hm] at h1; cases h1
                · rw [h2]; exact h3⟩
              case measure =>
                rw [HM0.out, HMS.out]
                have hS := HS0.out
                rcases HD3.out with ⟨h1, h2⟩ | ⟨h1, h2, _⟩
                · subst h1
                  simp only [boolN]
                  omega
                · subst h1 h2
                  simp only [boolN]
                  omega
theorem has_argU {w : World} {g n : Nat} {l : List Nat} (h : Has w g 40 (l.map u64V).toArray) (hn : n = l.length) (hm : n ≤ maxLen) (hb : ∀ x ∈ l, x < 2 ^ 64) : ArgU w (some ⟨g, 0, none⟩) n n l :=
  ⟨hn, fun _ => ⟨g, 0, rfl, fun i v hv => by rw [Nat.zero_add, h.cell]; simpa using hv⟩, fun _ a ha => by injection ha with ha; subst ha; exact h.lt, Nat.le_refl _, hm, hb⟩
theorem argU_nil (w : World) : ArgU w none 0 0 [] := ⟨rfl, Reads.empty, fun h => absurd h (by omega), Nat.le_refl _, Nat.zero_le _, fun x hx => by cases hx⟩

end Go.Proofs.YtogcbmhcddcfkaaGreatDoor
