/- The document's Sources: contract, no statement. -/
import Derived.Test.YtbgpjboefnacgaaGrr
import Derived.BigQuiet
import Derived.Deep.QuietTactic
namespace Go.Proofs.Ytbgpjboefnacgaa
open Go.RowKit
set_option linter.unusedVariables false

/-! Sets under way. -/
def has (S : List Bool) (i : Nat) : Bool := S.getD i false
theorem has_at (S : List Bool) (i : Nat) (h : i < S.length) : has S i = S[i] := by simp [has, List.getD, List.getElem?_eq_getElem h]
theorem has_out (S : List Bool) (i : Nat) (h : S.length ≤ i) : has S i = false := by simp [has, List.getD, List.getElem?_eq_none h]
theorem has_set (S : List Bool) (a i : Nat) (h : a < S.length) : has (S.set a true) i = (has S i || decide (i = a)) := by
  by_cases hi : i < S.length
  · rw [has_at _ _ (by simpa using hi), has_at _ _ hi]
    by_cases e : i = a
    · subst e; simp
    · rw [List.getElem_set_ne (by omega)]; simp [e]
  · rw [has_out _ _ (by simp; omega), has_out _ _ (by omega)]
    have : i ≠ a := by omega
    simp [this]
def cnt (S : List Bool) : Nat := S.count true
theorem cnt_le (S : List Bool) : cnt S ≤ S.length := List.count_le_length
theorem cnt_set (S : List Bool) (a : Nat) (h : a < S.length) : cnt (S.set a true) = if S[a] = true then cnt S else cnt S + 1 := by
  unfold cnt
  induction S generalizing a with
  | nil => simp at h
  | cons x S ih =>
    cases a with
    | zero => cases x <;> simp
    | succ a =>
      have ha : a < S.length := by simpa using h
      have := ih a ha
      cases x
      · simp [this]
      · simp [this]
        split <;> omega
/-- What holds of the set under way. -/
structure WayS (up : List Nat) (l : List G) (x : Nat) (S : List Bool) : Prop where
  len : S.length = up.length
  base : ∀ i, i < up.length → x.testBit i = true → has S i = true
  src : ∀ i, has S i = true → Src up l x i
theorem WayS.set {up : List Nat} {l : List G} {x a : Nat} {S : List Bool} (h : WayS up l x S) (ha : a < up.length) (hs : Src up l x a) : WayS up l x (S.set a true) := by
  have hl : a < S.length := by rw [h.len]; exact ha
  refine ⟨by simp [h.len], fun i hi hx => by rw [has_set S a i hl, h.base i hi hx]; rfl, fun i hi => ?_⟩
  rw [has_set S a i hl] at hi
  simp only [Bool.or_eq_true, decide_eq_true_eq] at hi
  rcases hi with hi | rfl
  · exact h.src i hi
  · exact hs
theorem WayS.done {up : List Nat} {l : List G} {x : Nat} {S : List Bool} (h : WayS up l x S) (h1 : ∀ a, a < up.length → ∀ b, b < up.length → has S b = true → lq up a b = true → has S a = true)
    (h2 : ∀ i (hi : i < l.length), fitsG up l[i] = true → has S l[i].t.toNat = true → has S l[i].a.toNat = true ∧ has S l[i].f.toNat = true) : mask (has S) up.length = srcN up l x := by
  apply srcN_is
  intro i
  rw [mask_bit]
  simp only [Bool.and_eq_true, decide_eq_true_eq]
  constructor
  · rintro ⟨_, hi⟩
    exact h.src i hi
  · intro hi
    refine ⟨hi.lt, src_least (fun i => has S i = true) h.base (fun a b hb hl => h1 a (lq_iff.1 hl).2.1 b (lq_iff.1 hl).2.2.1 hb hl) (fun g hg hf ht => ?_) i hi⟩
    obtain ⟨j, hj, rfl⟩ := List.getElem_of_mem hg
    exact h2 j hj hf ht
def boolV (b : Bool) : Value := .bool b
theorem boolinfo : (Try.prog.info? 4).map (fun i => (i.zero, i.size, i.bytes)) = some (some (.bool false), 1, 1) := by kernel_rfl
theorem make_bools (n : Nat) (hn : n ≤ 1000000) (w : World) : (Instr.makeSlice 56 (.int .i64 n) (.int .i64 n)).run Try.prog w = .ok (.slice (some ⟨w.heap.size, 0, none⟩) n n) (w.alloc (.cells (madeCells #[.bool false] n) 4)) := by
  obtain ⟨i0, hi, hz0, hz1, hz2⟩ := info_parts boolinfo
  have := run_make (P := Try.prog) (w := w) 56 4 i0 (.bool false) Try.underlying56 hi hz0 .i64 .i64 n n (by omega) (by omega) (by rw [hz2]; omega) (by omega)
  simp only [Int.toNat_natCast, hz1, Nat.mul_one] at this
  exact this
theorem made_bool (n : Nat) : madeCells #[.bool false] n = ((List.replicate n false).map boolV).toArray := by
  apply Array.ext'
  rw [toList_madeCells_one]
  simp [boolV]
theorem set_cell {w : World} {g : Nat} {S : List Bool} (h : Has w g 4 (S.map boolV).toArray) {i : Nat} (hi : i < S.length) : w.cell? ⟨g, i, none⟩ = some (.bool (has S i)) := by
  rw [h.cell, has_at S i hi]
  simp [List.getElem?_eq_getElem hi, boolV]
theorem set_store {w : World} {g : Nat} {S : List Bool} (h : Has w g 4 (S.map boolV).toArray) (i : Nat) (v : Bool) : Has (w.setCell ⟨g, i, none⟩ (.bool v)) g 4 ((S.set i v).map boolV).toArray := by
  have := h.store i (.bool v)
  have e : ((S.set i v).map boolV).toArray = (S.map boolV).toArray.setIfInBounds i (.bool v) := by
    rw [List.map_set]
    simp [boolV]
  rw [e]
  exact this
/-- The bits asked for, up to k. -/
def baseS (n x k : Nat) : List Bool := (List.range n).map fun i => decide (i < k) && x.testBit i
theorem baseS_len (n x k : Nat) : (baseS n x k).length = n := by simp [baseS]
theorem baseS_start (n x : Nat) : baseS n x 0 = List.replicate n false := by
  apply List.ext_getElem (by simp [baseS])
  intro i h1 h2
  simp [baseS]
theorem baseS_more (n x k : Nat) : baseS n x (k + 1) = (baseS n x k).set k (x.testBit k) := by
  apply List.ext_getElem (by simp [baseS])
  intro i h1 h2
  by_cases e : i = k
  · subst e
    rw [List.getElem_set_self]
    simp [baseS]
  · rw [List.getElem_set_ne (by omega)]
    simp only [baseS, List.getElem_map, List.getElem_range]
    congr 1
    simp
    omega
theorem baseS_way (up : List Nat) (l : List G) (x : Nat) : WayS up l x (baseS up.length x up.length) := by
  have hb : ∀ i, i < up.length → has (baseS up.length x up.length) i = x.testBit i := fun i hi => by
    rw [has_at _ _ (by rw [baseS_len]; exact hi)]
    simp [baseS, hi]
  refine ⟨baseS_len _ _ _, fun i hi hx => by rw [hb i hi]; exact hx, fun i hi => ?_⟩
  by_cases h : i < up.length
  · rw [hb i h] at hi
    exact .base h hi
  · rw [has_out _ _ (by rw [baseS_len]; omega)] at hi
    cases hi
def cntW (w : World) (g : Nat) : Nat := match w.heap[g]? with
  | some (.cells cs _ _) => (cs.toList.map fun v => match v with | .bool b => b | _ => false).count true
  | _ => 0
theorem cntW_is {w : World} {g : Nat} {S : List Bool} (h : Has w g 4 (S.map boolV).toArray) : cntW w g = cnt S := by
  unfold cntW
  unfold Has at h
  rw [h]
  simp only [List.map_map]
  unfold cnt
  congr 1
  rw [List.map_congr_left (g := id) (fun x _ => by simp [boolV])]
  simp
def boolM (v : Value) : Nat := match v with
  | .bool true => 1
  | _ => 0
/-- What a round has done so far: more was found, or all is as it was and C holds. -/
def RoundS (S0 : List Bool) (m : Bool) (S : List Bool) (C : Prop) : Prop := (m = true ∧ cnt S0 < cnt S) ∨ (m = false ∧ S = S0 ∧ C)
theorem RoundS.imp {S0 S : List Bool} {m : Bool} {C D : Prop} (h : RoundS S0 m S C) (hc : S = S0 → C → D) : RoundS S0 m S D := by
  rcases h with h | ⟨h1, h2, h3⟩
  · exact .inl h
  · exact .inr ⟨h1, h2, hc h2 h3⟩
theorem RoundS.le {S0 S : List Bool} {m : Bool} {C : Prop} (h : RoundS S0 m S C) : cnt S0 ≤ cnt S := by
  rcases h with ⟨_, h⟩ | ⟨_, h, _⟩
  · omega
  · rw [h]; exact Nat.le_refl _
def RowsS (up : List Nat) (l : List G) (x : Nat) (w wr : World) (S : List Bool) : Prop := WayS up l x S ∧ Has wr w.heap.size 4 (S.map boolV).toArray ∧ Below w.heap.size w wr

set_option maxRecDepth 100000 in
set_option maxHeartbeats 2000000 in
theorem r4Sources_any (up : List Nat) (A B : Option Addr) (n c m d x : Nat) (l : List G) (w : World) (hu : ArgU w A n c up) (hl : ArgG w B m d l) (hn : n ≤ 64) (hm : m ≤ 1000000) (hx : x < 2 ^ 64) :
    Calls Try.prog 19 #[.slice A n c, .slice B m d, .int .u64 x] w fun e w' => e = .returned (.int .u64 (srcN up l x : Int)) ∧ Below w.heap.size w w' := by
  have HU := Lib.hid hu
  have HA := Lib.hid hl
  have HN := Lib.hid hu.len
  have HM := Lib.hid hl.len
  have HX := Lib.hid hx
  have hmk := make_bools n (by omega)
  clear hu hl hx
  go_enter Try.func19, Try.ntmps19
  go_wp2
  have hb0 : Has (w.alloc (.cells (madeCells #[.bool false] n) 4)) w.heap.size 4 ((baseS n x 0).map boolV).toArray := by rw [baseS_start, ← made_bool]; exact Has.made _ _ _
  go_loopw [8] (fun i wr => ∃ k : Nat, k ≤ n ∧ i = .int .i64 k ∧ Has wr w.heap.size 4 ((baseS n x k).map boolV).toArray ∧ Below w.heap.size w wr) (fun i _ => n - (intOf i).toNat)
  case atStart => exact ⟨0, Nat.zero_le _, rfl, hb0, (Below.refl _ _).alloc (Nat.le_refl _) _⟩
  case round =>
    obtain ⟨k, hk, rfl, hh, hB⟩ := hrel
    have HH := Lib.hid hh
    have HB := Lib.hid hB
    clear hh hB
    by_cases hlt : k < n
    · have HBit := Lib.hid (fun w1 => r3Bit_any x k w1 HX.out (by omega))
      have hc := set_cell HH.out (i := k) (by rw [baseS_len]; exact hlt)
      have hf := HH.out.free k
      have HST := Lib.hid (set_store HH.out k (x.testBit k))
      rw [← baseS_more] at HST
      have i0 : (0 : Int) ≤ (k : Int) := by omega
      have i1 : (k : Int) < (n : Int) := by omega
      generalize has (baseS n x k) k = old at hc
      generalize x.testBit k = v at HBit HST
      clear hb0
      go_wp2_with (first | (go_at_call 25; refine (HBit.out _).mono ?_; rintro e w' ⟨rfl, rfl⟩))
      go_roundw
      case rel => exact ⟨k + 1, by omega, by go_num, HST.out, HB.out.setCell (p := ⟨w.heap.size, k, none⟩) (Nat.le_refl _) _⟩
      case measure => simp [intOf]; omega
    · obtain rfl : k = n := by omega
      obtain ⟨w5, hw5⟩ : ∃ w5 : World, w5 = wr := ⟨_, rfl⟩
      subst hw5
      have h64 : up.length ≤ 64 := by have := HN.out; omega
      have HL0 : Hid (RowsS up l x w w5 (baseS k x k)) := Lib.hid ⟨by have := baseS_way up l x; rwa [← HN.out] at this, HH.out, HB.out⟩
      clear hb0 HH HB
      go_wp2
      go_loopw [9] (fun v wr => ∃ (mo : Bool) (S : List Bool), v = .bool mo ∧ RowsS up l x w wr S ∧ (mo = false → (∀ a, a < k → ∀ b, b < k → has S b = true → lq up a b = true → has S a = true) ∧
        (∀ i (hi : i < l.length), fitsG up l[i] = true → has S l[i].t.toNat = true → has S l[i].a.toNat = true ∧ has S l[i].f.toNat = true))) (fun v wr => 2 * (k - cntW wr w.heap.size) + boolM v)
      case atStart => exact ⟨true, _, rfl, HL0.out, fun h => by cases h⟩
      case round =>
        obtain ⟨mo, S0, rfl, hrw, hcl⟩ := hrel
        cases mo
        · obtain ⟨w6, hw6⟩ : ∃ w6 : World, w6 = wr := ⟨_, rfl⟩
          subst hw6
          have HE : Hid (mask (has S0) k = srcN up l x) := Lib.hid (by
            have := hrw.1.done (fun a ha b hb => (hcl rfl).1 a (by have := HN.out; omega) b (by have := HN.out; omega)) (hcl rfl).2
            rwa [← HN.out] at this)
          have HR := Lib.hid hrw
          clear hcl hrw
          go_wp2
          go_loop [14, 15] (fun v i => ∃ q : Nat, q ≤ k ∧ i = .int .i64 q ∧ v = .int .u64 (mask (has S0) q : Int)) (fun _ i => k - (intOf i).toNat)
          case atStart => exact ⟨0, Nat.zero_le _, rfl, rfl⟩
          case round =>
            obtain ⟨q, hq, rfl, rfl⟩ := hrel
            by_cases hlt : q < k
            · have hc := set_cell HR.out.2.1 (i := q) (by rw [HR.out.1.len]; have := HN.out; omega)
              have HMm := Lib.hid (mask_more (has S0) q)
              have hml := mask_lt (has S0) q
              have i0 : (0 : Int) ≤ (q : Int) := by omega
              have i1 : (q : Int) < (k : Int) := by omega
              have HO := Lib.hid (fun w1 => r3One_any q w1 (by omega))
              have hp : 2 ^ q * 2 ≤ 2 ^ 64 := by
                have := Nat.pow_le_pow_right (n := 2) (by omega) (show q + 1 ≤ 64 by omega)
                rwa [Nat.pow_succ] at this
              generalize mask (has S0) q = mk at hml HMm ⊢
              generalize 2 ^ q = z at hml HMm HO hp
              generalize has S0 q = v at hc HMm
              cases v
              · clear hml hp HO
                go_wp2
                go_round
                case rel => exact ⟨q + 1, by omega, by go_num, u64_eq' (by rw [HMm.out]; simp)⟩
                case measure => simp [intOf]; omega
              · go_wp2_with (go_at_call 37; refine (HO.out _).mono ?_; rintro e w' ⟨rfl, rfl⟩)
                go_round
                case rel => exact ⟨q + 1, by omega, by go_num, u64_eq' (by rw [HMm.out]; simp)⟩
                case measure => simp [intOf]; omega
            · obtain rfl : q = k := by omega
              rw [HE.out]
              go_wp2
              go_ret
              exact ⟨rfl, HR.out.2.2⟩
        · have HM0 : Hid (2 * (k - cntW wr w.heap.size) + boolM (.bool true) = 2 * (k - cnt S0) + 1) := Lib.hid (by rw [cntW_is hrw.2.1]; rfl)
          have HR := Lib.hid hrw
          clear hcl hrw
          obtain ⟨w6, hw6⟩ : ∃ w6 : World, w6 = wr := ⟨_, rfl⟩
          subst hw6
          go_wp2
          go_loopw [9, 10] (fun v i wr => ∃ (mo : Bool) (S : List Bool) (a : Nat), v = .bool mo ∧ i = .int .i64 a ∧ a ≤ k ∧ RowsS up l x w wr S ∧ RoundS S0 mo S (∀ a', a' < a → ∀ b, b < k → has S0 b = true → lq up a' b = true → has S0 a' = true)) (fun _ i _ => k - (intOf i).toNat)
          case atStart => exact ⟨false, S0, 0, rfl, rfl, Nat.zero_le _, HR.out, .inr ⟨rfl, rfl, fun a ha => absurd ha (by omega)⟩⟩
          case round =>
            obtain ⟨mo, S, a, rfl, rfl, ha, hrw, hrd⟩ := hrel
            have HR1 := Lib.hid hrw
            have HD1 := Lib.hid hrd
            clear hrw hrd
            obtain ⟨w7, hw7⟩ : ∃ w7 : World, w7 = wr := ⟨_, rfl⟩
            subst hw7
            by_cases hak : a < k
            · go_wp2
              go_loopw [9, 11] (fun v i wr => ∃ (mo : Bool) (S : List Bool) (b : Nat), v = .bool mo ∧ i = .int .i64 b ∧ b ≤ k ∧ RowsS up l x w wr S ∧ RoundS S0 mo S ((∀ a', a' < a → ∀ b, b < k → has S0 b = true → lq up a' b = true → has S0 a' = true) ∧ ∀ b', b' < b → has S0 b' = true → lq up a b' = true → has S0 a = true)) (fun _ i _ => k - (intOf i).toNat)
              case atStart => exact ⟨mo, S, 0, rfl, rfl, Nat.zero_le _, HR1.out, HD1.out.imp fun _ h => ⟨h, fun b hb => absurd hb (by omega)⟩⟩
              case round =>
                obtain ⟨mo, S, b, rfl, rfl, hb, hrw, hrd⟩ := hrel
                by_cases hbk : b < k
                · have haS : a < S.length := by rw [hrw.1.len]; have := HN.out; omega
                  have hbS : b < S.length := by rw [hrw.1.len]; have := HN.out; omega
                  have ca := set_cell hrw.2.1 haS
                  have cb := set_cell hrw.2.1 hbS
                  have fa := hrw.2.1.free a
                  have HLq := Lib.hid (fun w1 (h1 : Below w.heap.size w w1) (v : Bool) (hv : lq up a b = v) => show Calls Try.prog 32 #[.slice A k c, .int .i64 a, .int .i64 b] w1 (fun e w' => e = .returned (.bool v) ∧ w1 = w') by
                    have := r3Leq_any up A k c a b w1 (HU.out.below h1) (by omega)
                    rwa [leqZ_nat, hv] at this)
                  have i0 : (0 : Int) ≤ (a : Int) := by omega
                  have i1 : (a : Int) < (k : Int) := by omega
                  have i2 : (0 : Int) ≤ (b : Int) := by omega
                  have i3 : (b : Int) < (k : Int) := by omega
                  have HNX : Hid (¬ (has S b = true ∧ has S a = false ∧ lq up a b = true) → RoundS S0 mo S ((∀ a', a' < a → ∀ b, b < k → has S0 b = true → lq up a' b = true → has S0 a' = true) ∧ ∀ b', b' < b + 1 → has S0 b' = true → lq up a b' = true → has S0 a = true)) := Lib.hid (fun hne => hrd.imp fun he h => ⟨h.1, fun b' hb' h1 h2 => by
                    by_cases e : b' = b
                    · subst e
                      subst he
                      cases h3 : has S a
                      · exact absurd ⟨h1, h3, h2⟩ hne
                      · rfl
                    · exact h.2 b' (by omega) h1 h2⟩)
                  have HADD : Hid (has S b = true → has S a = false → lq up a b = true → WayS up l x (S.set a true) ∧ cnt S0 < cnt (S.set a true)) := Lib.hid (fun h1 h2 h3 => by
                    refine ⟨hrw.1.set (by have := HN.out; omega) (.down (hrw.1.src b h1) h3), ?_⟩
                    rw [cnt_set S a haS, if_neg (by rw [← has_at S a haS, h2]; simp)]
                    have := hrd.le
                    omega)
                  have HST := Lib.hid (set_store hrw.2.1 a true)
                  have HR2 := Lib.hid hrw
                  clear hrw hrd haS hbS
                  by_cases hall : has S b = true ∧ has S a = false ∧ lq up a b = true
                  · obtain ⟨k1, k2, k3⟩ := hall
                    have HE := Lib.hid (HADD.out k1 k2 k3)
                    have Q1 := Lib.hid (fun w1 h1 => HLq.out w1 h1 true k3)
                    rw [k1] at cb
                    rw [k2] at ca
                    clear HNX HADD HLq k1 k2 k3
                    go_wp2_with (go_at_call 32; refine (Q1.out _ HR2.out.2.2).mono ?_; rintro e w' ⟨rfl, rfl⟩)
                    go_roundw
                    case rel => exact ⟨true, S.set a true, b + 1, rfl, by go_num, by omega, ⟨HE.out.1, HST.out, HR2.out.2.2.setCell (p := ⟨w.heap.size, a, none⟩) (Nat.le_refl _) _⟩, .inl ⟨rfl, HE.out.2⟩⟩
                    case measure => simp [intOf]; omega
                  · have HE := Lib.hid (HNX.out hall)
                    clear HNX HADD HST
                    cases k1 : has S b
                    · rw [k1] at cb
                      clear hall k1 HLq
                      go_wp2
                      go_roundw
                      case rel => exact ⟨mo, S, b + 1, rfl, by go_num, by omega, HR2.out, HE.out⟩
                      case measure => simp [intOf]; omega
                    · rw [k1] at cb
                      cases k2 : has S a
                      · rw [k2] at ca
                        cases k3 : lq up a b
                        · have Q1 := Lib.hid (fun w1 h1 => HLq.out w1 h1 false k3)
                          clear hall k1 k2 k3 HLq
                          go_wp2_with (go_at_call 32; refine (Q1.out _ HR2.out.2.2).mono ?_; rintro e w' ⟨rfl, rfl⟩)
                          go_roundw
                          case rel => exact ⟨mo, S, b + 1, rfl, by go_num, by omega, HR2.out, HE.out⟩
                          case measure => simp [intOf]; omega
                        · exact absurd ⟨k1, k2, k3⟩ hall
                      · rw [k2] at ca
                        clear hall k1 k2 HLq
                        go_wp2
                        go_roundw
                        case rel => exact ⟨mo, S, b + 1, rfl, by go_num, by omega, HR2.out, HE.out⟩
                        case measure => simp [intOf]; omega
                · obtain rfl : b = k := by omega
                  have HR3 := Lib.hid hrw
                  have HD3 := Lib.hid hrd
                  clear hrw hrd
                  obtain ⟨w9, hw9⟩ : ∃ w9 : World, w9 = wr := ⟨_, rfl⟩
                  subst hw9
                  go_wp2
                  go_roundw
                  case rel => exact ⟨mo, S, a + 1, rfl, by go_num, by omega, HR3.out, HD3.out.imp fun _ h a' ha' b' hb' h1 h2 => by
                    by_cases e : a' = a
                    · subst e; exact h.2 b' hb' h1 h2
                    · exact h.1 a' (by omega) b' hb' h1 h2⟩
                  case measure => simp [intOf]; omega
            · obtain rfl : a = k := by omega
              go_wp2
              go_loopw [9, 12] (fun v i wr => ∃ (mo : Bool) (S : List Bool) (j : Nat), v = .bool mo ∧ i = .int .i64 j ∧ j ≤ m ∧ RowsS up l x w wr S ∧ RoundS S0 mo S ((∀ a', a' < a → ∀ b, b < a → has S0 b = true → lq up a' b = true → has S0 a' = true) ∧
                ∀ i (hi : i < l.length), i < j → fitsG up l[i] = true → has S0 l[i].t.toNat = true → has S0 l[i].a.toNat = true ∧ has S0 l[i].f.toNat = true)) (fun _ i _ => m - (intOf i).toNat)
              case atStart => exact ⟨mo, S, 0, rfl, rfl, Nat.zero_le _, HR1.out, HD1.out.imp fun _ h => ⟨h, fun i hi hj => absurd hj (by omega)⟩⟩
              case round =>
                obtain ⟨mo, S, j, rfl, rfl, hj, hrw, hrd⟩ := hrel
                by_cases hjm : j < m
                · have hjl : j < l.length := by have := HM.out; omega
                  obtain ⟨b, off, rfl, c1, c2, c3⟩ := (HA.out.below hrw.2.2).reads.gat hjl
                  have HC := Lib.hid (fun w1 (h1 : Below w.heap.size w w1) => show w1.cell? ⟨b, off + j * 3, none⟩ = some (.int .i64 l[j].a) ∧ w1.cell? ⟨b, off + j * 3 + 1, none⟩ = some (.int .i64 l[j].f) ∧ w1.cell? ⟨b, off + j * 3 + 2, none⟩ = some (.int .i64 l[j].t) by
                    obtain ⟨b', off', hA', h⟩ := (HA.out.below h1).reads.gat hjl
                    injection hA' with hA'
                    injection hA' with q5 q6
                    subst q5 q6
                    exact h)
                  have HFit := Lib.hid (fun w1 (h1 : Below w.heap.size w w1) (v : Bool) (hv : fitsG up l[j] = v) => show Calls Try.prog 13 #[.slice A a c, .agg #[.int .i64 l[j].a, .int .i64 l[j].f, .int .i64 l[j].t]] w1 (fun e w' => e = .returned (.bool v) ∧ Below w1.heap.size w1 w') by
                    have := r4Fits_any up A a c l[j] w1 (HU.out.below h1) (by omega)
                    rwa [hv] at this)
                  have i0 : (0 : Int) ≤ (j : Int) := by omega
                  have i1 : (j : Int) < (m : Int) := by omega
                  have HNX : Hid (¬ (fitsG up l[j] = true ∧ has S l[j].t.toNat = true ∧ ¬ (has S l[j].a.toNat = true ∧ has S l[j].f.toNat = true)) → RoundS S0 mo S ((∀ a', a' < a → ∀ b, b < a → has S0 b = true → lq up a' b = true → has S0 a' = true) ∧
                      ∀ i (hi : i < l.length), i < j + 1 → fitsG up l[i] = true → has S0 l[i].t.toNat = true → has S0 l[i].a.toNat = true ∧ has S0 l[i].f.toNat = true)) := Lib.hid (fun hne => hrd.imp fun he h => ⟨h.1, fun i hi hij h1 h2 => by
                    by_cases e : i = j
                    · subst e
                      subst he
                      by_cases h3 : has S l[i].a.toNat = true ∧ has S l[i].f.toNat = true
                      · exact h3
                      · exact absurd ⟨h1, h2, h3⟩ hne
                    · exact h.2 i hi (by omega) h1 h2⟩)
                  have HADD : Hid (fitsG up l[j] = true → has S l[j].t.toNat = true → ¬ (has S l[j].a.toNat = true ∧ has S l[j].f.toNat = true) → WayS up l x ((S.set l[j].a.toNat true).set l[j].f.toNat true) ∧ cnt S0 < cnt ((S.set l[j].a.toNat true).set l[j].f.toNat true)) := Lib.hid (fun h1 h2 h3 => by
                    obtain ⟨⟨_, p1⟩, ⟨_, p2⟩, _⟩ := fitsG_in h1
                    have hm1 := List.getElem_mem hjl
                    have hs := hrw.1.src _ h2
                    refine ⟨(hrw.1.set p1 (.act hm1 h1 hs)).set p2 (.frm hm1 h1 hs), ?_⟩
                    have l1 : l[j].a.toNat < S.length := by rw [hrw.1.len]; exact p1
                    have l2 : l[j].f.toNat < (S.set l[j].a.toNat true).length := by rw [List.length_set, hrw.1.len]; exact p2
                    have e1 := cnt_set S _ l1
                    have e2 := cnt_set (S.set l[j].a.toNat true) _ l2
                    have hle := hrd.le
                    rw [← has_at _ _ l1] at e1
                    rw [← has_at _ _ l2, has_set S _ _ l1] at e2
                    by_cases ha : has S l[j].a.toNat = true
                    · have hf : has S l[j].f.toNat = false := by
                        cases hf : has S l[j].f.toNat
                        · rfl
                        · exact absurd ⟨ha, hf⟩ h3
                      have hne : ¬ l[j].f.toNat = l[j].a.toNat := by
                        intro e
                        rw [e, ha] at hf
                        cases hf
                      rw [if_pos ha] at e1
                      rw [hf] at e2
                      simp [hne] at e2
                      omega
                    · rw [if_neg ha] at e1
                      rw [e2]
                      split <;> omega)
                  have HR3 := Lib.hid hrw
                  have hlt := hrw.2.1.lt
                  clear hrw hrd
                  cases hf : fitsG up l[j]
                  · have HE := Lib.hid (HNX.out (fun h => by rw [hf] at h; cases h.1))
                    have Q1 := Lib.hid (fun w1 h1 => HFit.out w1 h1 false hf)
                    clear HNX HADD HC HFit hf
                    generalize l[j] = y at c1 c2 c3 Q1
                    go_wp2_with (go_at_call 13; refine (Q1.out _ HR3.out.2.2).mono ?_; rintro e w8 ⟨rfl, h1⟩; have R8 : Hid (RowsS up l x w w8 S) := Lib.hid ⟨HR3.out.1, HR3.out.2.1.below h1 hlt, below_step HR3.out.2.2 h1⟩; clear h1)
                    go_roundw
                    case rel => exact ⟨mo, S, j + 1, rfl, by go_num, by omega, R8.out, HE.out⟩
                    case measure => simp [intOf]; omega
                  · obtain ⟨⟨p1, p2⟩, ⟨p3, p4⟩, ⟨p5, p6⟩⟩ := fitsG_in hf
                    have Q1 := Lib.hid (fun w1 h1 => HFit.out w1 h1 true hf)
                    clear HFit
                    obtain ⟨ta, hta⟩ : ∃ t : Nat, l[j].a = (t : Int) := ⟨l[j].a.toNat, by omega⟩
                    obtain ⟨tf, htf⟩ : ∃ t : Nat, l[j].f = (t : Int) := ⟨l[j].f.toNat, by omega⟩
                    obtain ⟨tt, htt⟩ : ∃ t : Nat, l[j].t = (t : Int) := ⟨l[j].t.toNat, by omega⟩
                    simp only [hta, htf, htt, hf, Int.toNat_natCast, true_and, forall_const] at p2 p4 p6 c1 c2 c3 HC Q1 HNX HADD
                    have hal : ta < S.length := by rw [HR3.out.1.len]; exact p2
                    have hfl : tf < S.length := by rw [HR3.out.1.len]; exact p4
                    have htl : tt < S.length := by rw [HR3.out.1.len]; exact p6
                    have HCS := Lib.hid (fun w1 (h : Has w1 w.heap.size 4 (S.map boolV).toArray) => And.intro (set_cell h hal) (And.intro (set_cell h hfl) (set_cell h htl)))
                    have j1 : (ta : Int) < (a : Int) := by have := HN.out; omega
                    have j2 : (tf : Int) < (a : Int) := by have := HN.out; omega
                    have j3 : (tt : Int) < (a : Int) := by have := HN.out; omega
                    have j4 : (0 : Int) ≤ (ta : Int) := by omega
                    have j5 : (0 : Int) ≤ (tf : Int) := by omega
                    have j6 : (0 : Int) ≤ (tt : Int) := by omega
                    have HFL := Lib.hid hfl
                    clear hf p1 p2 p3 p4 p5 p6 hta htf htt hal hfl htl hjl
                    cases kt : has S tt
                    · have HE := Lib.hid (HNX.out (fun h => by rw [kt] at h; cases h.1))
                      rw [kt] at HCS
                      clear HNX HADD kt
                      go_wp2_with (go_at_call 13; refine (Q1.out _ HR3.out.2.2).mono ?_; rintro e w8 ⟨rfl, h1⟩; have R8 : Hid (RowsS up l x w w8 S) := Lib.hid ⟨HR3.out.1, HR3.out.2.1.below h1 hlt, below_step HR3.out.2.2 h1⟩; obtain ⟨d1, d2, d3⟩ := HC.out w8 R8.out.2.2; obtain ⟨s1, s2, s3⟩ := HCS.out w8 R8.out.2.1; clear h1)
                      go_roundw
                      case rel => exact ⟨mo, S, j + 1, rfl, by go_num, by omega, R8.out, HE.out⟩
                      case measure => simp [intOf]; omega
                    · cases ka : has S ta
                      · have HE := Lib.hid (HADD.out kt (fun h => by rw [ka] at h; cases h.1))
                        rw [kt, ka] at HCS
                        clear HNX HADD kt ka
                        go_wp2_with (go_at_call 13; refine (Q1.out _ HR3.out.2.2).mono ?_; rintro e w8 ⟨rfl, h1⟩; have R8 : Hid (RowsS up l x w w8 S) := Lib.hid ⟨HR3.out.1, HR3.out.2.1.below h1 hlt, below_step HR3.out.2.2 h1⟩; obtain ⟨d1, d2, d3⟩ := HC.out w8 R8.out.2.2; obtain ⟨s1, s2, s3⟩ := HCS.out w8 R8.out.2.1; clear h1; have f1 := R8.out.2.1.free ta; have HW1 := Lib.hid (R8.out.2.2.setCell (p := ⟨w.heap.size, ta, none⟩) (Nat.le_refl _) (.bool true)); obtain ⟨d4, d5, d6⟩ := HC.out _ HW1.out; have HS1 := Lib.hid (set_store R8.out.2.1 ta true); have ce2 := set_cell HS1.out (i := tf) (by rw [List.length_set]; exact HFL.out); have f2 := HS1.out.free tf; have HS2 := Lib.hid (set_store HS1.out tf true); have HW2 := Lib.hid (HW1.out.setCell (p := ⟨w.heap.size, tf, none⟩) (Nat.le_refl _) (.bool true)))
                        go_roundw
                        case rel => exact ⟨true, (S.set ta true).set tf true, j + 1, rfl, by go_num, by omega, ⟨HE.out.1, HS2.out, HW2.out⟩, .inl ⟨rfl, HE.out.2⟩⟩
                        case measure => simp [intOf]; omega
                      · cases kf : has S tf
                        · have HE := Lib.hid (HADD.out kt (fun h => by rw [kf] at h; cases h.2))
                          rw [kt, ka, kf] at HCS
                          clear HNX HADD kt ka kf
                          go_wp2_with (go_at_call 13; refine (Q1.out _ HR3.out.2.2).mono ?_; rintro e w8 ⟨rfl, h1⟩; have R8 : Hid (RowsS up l x w w8 S) := Lib.hid ⟨HR3.out.1, HR3.out.2.1.below h1 hlt, below_step HR3.out.2.2 h1⟩; obtain ⟨d1, d2, d3⟩ := HC.out w8 R8.out.2.2; obtain ⟨s1, s2, s3⟩ := HCS.out w8 R8.out.2.1; clear h1; have f1 := R8.out.2.1.free ta; have HW1 := Lib.hid (R8.out.2.2.setCell (p := ⟨w.heap.size, ta, none⟩) (Nat.le_refl _) (.bool true)); obtain ⟨d4, d5, d6⟩ := HC.out _ HW1.out; have HS1 := Lib.hid (set_store R8.out.2.1 ta true); have ce2 := set_cell HS1.out (i := tf) (by rw [List.length_set]; exact HFL.out); have f2 := HS1.out.free tf; have HS2 := Lib.hid (set_store HS1.out tf true); have HW2 := Lib.hid (HW1.out.setCell (p := ⟨w.heap.size, tf, none⟩) (Nat.le_refl _) (.bool true)))
                          go_roundw
                          case rel => exact ⟨true, (S.set ta true).set tf true, j + 1, rfl, by go_num, by omega, ⟨HE.out.1, HS2.out, HW2.out⟩, .inl ⟨rfl, HE.out.2⟩⟩
                          case measure => simp [intOf]; omega
                        · have HE := Lib.hid (HNX.out (fun h => h.2 ⟨ka, kf⟩))
                          rw [kt, ka, kf] at HCS
                          clear HNX HADD kt ka kf
                          go_wp2_with (go_at_call 13; refine (Q1.out _ HR3.out.2.2).mono ?_; rintro e w8 ⟨rfl, h1⟩; have R8 : Hid (RowsS up l x w w8 S) := Lib.hid ⟨HR3.out.1, HR3.out.2.1.below h1 hlt, below_step HR3.out.2.2 h1⟩; obtain ⟨d1, d2, d3⟩ := HC.out w8 R8.out.2.2; obtain ⟨s1, s2, s3⟩ := HCS.out w8 R8.out.2.1; clear h1)
                          go_roundw
                          case rel => exact ⟨mo, S, j + 1, rfl, by go_num, by omega, R8.out, HE.out⟩
                          case measure => simp [intOf]; omega
                · obtain rfl : j = m := by omega
                  have HR3 := Lib.hid hrw
                  have HD3 := Lib.hid hrd
                  have HMS := Lib.hid (cntW_is hrw.2.1)
                  have HS0 : Hid (cnt S ≤ a) := Lib.hid (by
                    have := cnt_le S
                    rw [hrw.1.len] at this
                    have := HN.out
                    omega)
                  have HM1 := HM
                  clear hrw hrd
                  obtain ⟨w9, hw9⟩ : ∃ w9 : World, w9 = wr := ⟨_, rfl⟩
                  subst hw9
                  go_wp2
                  go_roundw
                  case rel => exact ⟨mo, S, rfl, HR3.out, fun hm => by
                    rcases HD3.out with ⟨h1, _⟩ | ⟨_, h2, h3⟩
                    · rw [hm] at h1; cases h1
                    · rw [h2]; exact ⟨h3.1, fun i hi => h3.2 i hi (by have := HM1.out; omega)⟩⟩
                  case measure =>
                    rw [HM0.out, HMS.out]
                    have hS := HS0.out
                    rcases HD3.out with ⟨h1, h2⟩ | ⟨h1, h2, _⟩
                    · subst h1
                      simp only [boolM]
                      omega
                    · subst h1 h2
                      simp only [boolM]
                      omega

end Go.Proofs.Ytbgpjboefnacgaa
