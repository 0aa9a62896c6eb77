import Derived.Test.YtglkmpglpddfdaaGreatDoorJ00
import Derived.Laws.OwnMore
/- Of a claim's texts, joined: Latr. No statement but in the last. -/
namespace Go.Proofs.YtglkmpglpddfdaaGreatDoor
open Go.RowKit
set_option linter.unusedVariables false

def u64V (x : Nat) : Value := .int .u64 (x : Int)
structure ArgU (w : World) (A : Option Addr) (n c : Nat) (l : List Nat) : Prop where
  len : n = l.length
  reads : Reads w A (l.map u64V)
  old : 0 < n → ∀ a, A = some a → a.block < w.heap.size
  room : n ≤ c
  most : c ≤ maxLen
  big : ∀ x ∈ l, x < 2 ^ 64
theorem ArgU.below {w w' : World} {A : Option Addr} {n c : Nat} {l : List Nat} (h : ArgU w A n c l) (hb : Below w.heap.size w w') : ArgU w' A n c l :=
  ⟨h.len, h.reads.below hb (fun hx => h.old (by rw [h.len]; simpa using hx)), fun hn a ha => Nat.lt_of_lt_of_le (h.old hn a ha) hb.size, h.room, h.most, h.big⟩
theorem u64_eq' {a b : Int} (h : a = b) : Value.int .u64 a = .int .u64 b := by rw [h]
theorem ret_bool {a b : Bool} (h : a = b) : Ending.returned (.bool a) = .returned (.bool b) := by rw [h]
theorem ret_i64 {a b : Int} (h : a = b) : Ending.returned (.int .i64 a) = .returned (.int .i64 b) := by rw [h]
theorem Reads.at_ {w : World} {A : Option Addr} {l : List Nat} (h : Reads w A (l.map u64V)) {i : Nat} (hi : i < l.length) :
    ∃ g off, A = some ⟨g, off, none⟩ ∧ w.cell? ⟨g, off + i, none⟩ = some (.int .u64 (l[i] : Int)) := by
  obtain ⟨g, off, hA, hc⟩ := h (by simp; omega)
  exact ⟨g, off, hA, hc i (u64V l[i]) (by simp [List.getElem?_eq_getElem hi])⟩

theorem half_bit (x k : Nat) : (x / 2 ^ k % 2 == 1) = x.testBit k := by
  rw [Nat.testBit_eq_decide_div_mod_eq]
  by_cases h : x / 2 ^ k % 2 = 1 <;> simp [h]

set_option maxHeartbeats 400000 in
theorem r3Bit_any (x k : Nat) (w : World) (hx : x < 2 ^ 64) (hk : k ≤ 64) :
    Calls Tryz.prog 45 #[.int .u64 x, .int .i64 k] w fun e w' => e = .returned (.bool (x.testBit k)) ∧ w = w' := by
  have H := Lib.hid hx
  clear hx
  go_enter Tryz.func45, Tryz.ntmps45
  go_wp2
  go_loop [0, 5] (fun v i => ∃ j : Nat, j ≤ k ∧ i = .int .i64 j ∧ v = .int .u64 ((x / 2 ^ j : Nat) : Int)) (fun _ i => k - (intOf i).toNat)
  case atStart => exact ⟨0, Nat.zero_le _, rfl, u64_eq' (by simp)⟩
  case round =>
    obtain ⟨j, hj, rfl, rfl⟩ := hrel
    have HS : Hid (x / 2 ^ (j + 1) = x / 2 ^ j / 2) := Lib.hid (by rw [Nat.pow_succ, Nat.div_div_eq_div_mul])
    have hb : x / 2 ^ j < 2 ^ 64 := Nat.lt_of_le_of_lt (Nat.div_le_self _ _) H.out
    by_cases hlt : j < k
    · generalize x / 2 ^ j = y at hb HS
      go_wp2
      go_round
      case rel => exact ⟨j + 1, by omega, by go_num, u64_eq' (by rw [HS.out]; omega)⟩
      case measure => simp [intOf]; omega
    · obtain rfl : j = k := by omega
      have HB := Lib.hid (half_bit x j)
      clear hlt hj
      generalize x / 2 ^ j = y at hb HS HB
      go_wp2
      go_ret
      exact ⟨ret_bool (by rw [← HB.out, Bool.eq_iff_iff]; simp; omega), rfl⟩
set_option maxHeartbeats 400000 in
theorem r3One_any (k : Nat) (w : World) (hk : k < 64) :
    Calls Tryz.prog 60 #[.int .i64 k] w fun e w' => e = .returned (.int .u64 ((2 ^ k : Nat) : Int)) ∧ w = w' := by
  go_enter Tryz.func60, Tryz.ntmps60
  go_wp2
  go_loop [3, 4] (fun v i => ∃ j : Nat, j ≤ k ∧ i = .int .i64 j ∧ v = .int .u64 ((2 ^ j : Nat) : Int)) (fun _ i => k - (intOf i).toNat)
  case atStart => exact ⟨0, Nat.zero_le _, rfl, rfl⟩
  case round =>
    obtain ⟨j, hj, rfl, rfl⟩ := hrel
    have HS : Hid (2 ^ (j + 1) = 2 ^ j * 2) := Lib.hid (Nat.pow_succ 2 j)
    by_cases hlt : j < k
    · have hb : 2 ^ j ≤ 2 ^ 62 := Nat.pow_le_pow_right (by omega) (by omega)
      generalize 2 ^ j = y at hb HS
      go_wp2
      go_round
      case rel => exact ⟨j + 1, by omega, by go_num, u64_eq' (by rw [HS.out]; omega)⟩
      case measure => simp [intOf]; omega
    · obtain rfl : j = k := by omega
      clear hlt hj
      go_wp2
      go_ret
      exact ⟨rfl, rfl⟩

theorem leqZ_at {up : List Nat} {a b : Nat} (h : up.length ≤ 64) (ha : a < up.length) (hb : b < up.length) : leqZ up a b = up[a].testBit b := by
  rw [leqZ_nat]
  unfold lq ubit
  rw [getD_at _ _ ha]
  simp [h, ha, hb]
set_option maxHeartbeats 1000000 in
theorem r3Leq_any (up : List Nat) (A : Option Addr) (n c : Nat) (a b : Int) (w : World) (h : ArgU w A n c up) (hn : n ≤ 1000000) :
    Calls Tryz.prog 110 #[.slice A n c, .int .i64 a, .int .i64 b] w fun e w' => e = .returned (.bool (leqZ up a b)) ∧ w = w' := by
  have hlen := h.len
  by_cases h64 : n ≤ 64
  · by_cases ha0 : 0 ≤ a
    · by_cases han : a < n
      · by_cases hb0 : 0 ≤ b
        · by_cases hbn : b < n
          · obtain ⟨i, rfl⟩ : ∃ i : Nat, a = i := ⟨a.toNat, by omega⟩
            obtain ⟨k, rfl⟩ : ∃ k : Nat, b = k := ⟨b.toNat, by omega⟩
            have hi : i < up.length := by omega
            obtain ⟨g, off, rfl, hc⟩ := h.reads.at_ hi
            have hx := h.big up[i] (List.getElem_mem hi)
            rw [leqZ_at (by omega) hi (by omega)]
            generalize up[i] = x at hc hx
            have HX := Lib.hid hx
            clear h hx hlen hi
            go_enter Tryz.func110, Tryz.ntmps110
            go_wp2_with (go_at_call 45; refine (r3Bit_any x k _ HX.out (by omega)).mono ?_; rintro e w' ⟨rfl, rfl⟩)
            go_ret
            exact ⟨rfl, rfl⟩
          · rw [leqZ_out (by omega)]
            clear h hlen
            go_enter Tryz.func110, Tryz.ntmps110
            go_wp2
            go_ret
            exact ⟨rfl, rfl⟩
        · rw [leqZ_out (by omega)]
          clear h hlen
          go_enter Tryz.func110, Tryz.ntmps110
          go_wp2
          go_ret
          exact ⟨rfl, rfl⟩
      · rw [leqZ_out (by omega)]
        clear h hlen
        go_enter Tryz.func110, Tryz.ntmps110
        go_wp2
        go_ret
        exact ⟨rfl, rfl⟩
    · rw [leqZ_out (by omega)]
      clear h hlen
      go_enter Tryz.func110, Tryz.ntmps110
      go_wp2
      go_ret
      exact ⟨rfl, rfl⟩
  · rw [leqZ_out (by omega)]
    clear h hlen
    go_enter Tryz.func110, Tryz.ntmps110
    go_wp2
    go_ret
    exact ⟨rfl, rfl⟩

theorem mask_more (p : Nat → Bool) (k : Nat) : mask p (k + 1) = mask p k + if p k = true then 2 ^ k else 0 := rfl
set_option maxHeartbeats 1000000 in
theorem r3Down_any (up : List Nat) (A : Option Addr) (n c : Nat) (a : Int) (w : World) (h : ArgU w A n c up) (hn : n ≤ 1000000) :
    Calls Tryz.prog 128 #[.slice A n c, .int .i64 a] w fun e w' => e = .returned (.int .u64 (downN up a : Int)) ∧ w = w' := by
  have HL := Lib.hid (fun (i : Int) => r3Leq_any up A n c i a w h hn)
  have HN := Lib.hid h.len
  clear h
  go_enter Tryz.func128, Tryz.ntmps128
  go_wp2
  go_loop [5, 6] (fun v i => ∃ k : Nat, k ≤ n ∧ i = .int .i64 k ∧ v = .int .u64 (mask (fun i => leqZ up i a) k : Int)) (fun _ i => n - (intOf i).toNat)
  case atStart => exact ⟨0, Nat.zero_le _, rfl, rfl⟩
  case round =>
    obtain ⟨k, hk, rfl, rfl⟩ := hrel
    by_cases hlt : k < n
    · have HC := Lib.hid (HL.out (k : Int))
      have HM := Lib.hid (mask_more (fun i => leqZ up i a) k)
      have hml := mask_lt (fun i => leqZ up i a) k
      have ho : leqZ up k a = true → k < 64 := fun hh => by
        obtain ⟨_, _, h3⟩ := leqZ_iff.1 hh
        have := (lq_iff.1 h3).1
        have := HN.out
        omega
      generalize mask (fun i => leqZ up i a) k = m at hml HM ⊢
      generalize leqZ up k a = v at HC HM ho
      cases v
      · clear ho hml
        go_wp2_with (go_at_call 110; refine HC.out.mono ?_; rintro e w' ⟨rfl, rfl⟩)
        go_round
        case rel => exact ⟨k + 1, by omega, by go_num, u64_eq' (by rw [HM.out]; simp)⟩
        case measure => simp [intOf]; omega
      · have hk64 := ho rfl
        clear ho
        have hp : 2 ^ k * 2 ≤ 2 ^ 64 := by
          have := Nat.pow_le_pow_right (n := 2) (by omega) (show k + 1 ≤ 64 by omega)
          rwa [Nat.pow_succ] at this
        have HO := Lib.hid (fun w => r3One_any k w hk64)
        rw [if_pos rfl] at HM
        generalize 2 ^ k = y at hp HO HM hml
        go_wp2_with (first | (go_at_call 110; refine HC.out.mono ?_; rintro e w' ⟨rfl, rfl⟩) | (go_at_call 60; refine (HO.out _).mono ?_; rintro e w' ⟨rfl, rfl⟩))
        go_round
        case rel => exact ⟨k + 1, by omega, by go_num, u64_eq' (by rw [HM.out]; omega)⟩
        case measure => simp [intOf]; omega
    · obtain rfl : k = n := by omega
      have e : mask (fun i => leqZ up i a) k = downN up a := by unfold downN; rw [HN.out]
      rw [e]
      clear e
      go_wp2
      go_ret
      exact ⟨rfl, rfl⟩

/-! Owned rows. -/
theorem below_own {B : Nat} {w0 w w' : World} {e : TypeId} {s n : Nat} {v : Value} {xs : List Value} (h : Below B w0 w) (hg : w.grownBy w' v.ownBlock) (ho : w.ownsRow B e s v n xs) (hB : B ≤ w.heap.size) : Below B w0 w' :=
  h.grown hg hB (fun k hk => (ho.lt k hk).1)
theorem u64info : (Tryz.prog.info? 37).map (fun i => (i.zero, i.size, i.bytes)) = some (some (.int .u64 0), 1, 8) := by kernel_rfl
theorem own_sliceU {w : World} {B : Nat} {v : Value} {n : Nat} {xs : List Value} (h : w.ownsRow B 37 1 v n xs) : ∃ A c, v = .slice A n c ∧ n ≤ c ∧ c ≤ maxLen := by
  rcases h.2 with ⟨rfl, rfl⟩ | ⟨g, cap, cur, rfl, _, _, h1, h2, _⟩
  · exact ⟨none, 0, rfl, Nat.le_refl _, Nat.zero_le _⟩
  · exact ⟨_, cap, rfl, h1, h2⟩
theorem argU_own {w : World} {B n : Nat} {v : Value} {l : List Nat} (h : w.ownsRow B 37 1 v n (l.map u64V)) (hn : n = l.length) (hb : ∀ x ∈ l, x < 2 ^ 64) : ∃ A c, v = .slice A n c ∧ ArgU w A n c l ∧ Row w 37 B A (l.map u64V) := by
  obtain ⟨A, c, rfl, h1, h2⟩ := own_sliceU h
  have hr : Row w 37 B A (l.map u64V) := Row.of_own h
  exact ⟨A, c, rfl, ⟨hn, hr.reads, fun h0 a ha => by
    obtain ⟨g, off, cs, hA, _, hg, _⟩ := hr (by simp; omega)
    rw [ha] at hA
    injection hA with hA
    subst hA
    exact hg.lt, h1, h2, hb⟩, hr⟩

/-! Turned rows, and bounds. -/
def turnedN (up : List Nat) : List Nat := (List.range up.length).map fun i : Nat => downN up i
theorem downN_lt (up : List Nat) (a : Int) (h : up.length ≤ 64) : downN up a < 2 ^ 64 := Nat.lt_of_lt_of_le (mask_lt _ _) (Nat.pow_le_pow_right (by omega) h)
theorem turnedN_len (up : List Nat) : (turnedN up).length = up.length := by simp [turnedN]
theorem turnedN_big (up : List Nat) (h : up.length ≤ 64) : ∀ x ∈ turnedN up, x < 2 ^ 64 := by
  intro x hx
  obtain ⟨i, _, rfl⟩ := List.mem_map.1 hx
  exact downN_lt up _ h
theorem leqZ_turned (up : List Nat) (h : up.length ≤ 64) (a b : Int) : leqZ (turnedN up) a b = leqZ up b a := by
  rw [Bool.eq_iff_iff, leqZ_iff, leqZ_iff, lq_iff, lq_iff, turnedN_len]
  constructor
  · rintro ⟨h1, h2, h3, h4, h5, h6⟩
    unfold ubit at h6
    rw [getD_at _ _ (by rw [turnedN_len]; exact h4)] at h6
    simp only [turnedN, List.getElem_map, List.getElem_range, downN, mask_bit, Bool.and_eq_true] at h6
    have h7 := h6.2
    rw [leqZ_iff, lq_iff] at h7
    simp only [Int.toNat_natCast] at h7
    exact ⟨h2, h1, h, h5, h4, h7.2.2.2.2.2⟩
  · rintro ⟨h1, h2, h3, h4, h5, h6⟩
    refine ⟨h2, h1, h, h5, h4, ?_⟩
    unfold ubit
    rw [getD_at _ _ (by rw [turnedN_len]; exact h5)]
    simp only [turnedN, List.getElem_map, List.getElem_range, downN, mask_bit, Bool.and_eq_true]
    refine ⟨by simpa using h4, leqZ_iff.2 ⟨by omega, by omega, lq_iff.2 ?_⟩⟩
    simp only [Int.toNat_natCast]
    exact ⟨h, h4, h5, h6⟩
theorem join_turned (up : List Nat) (h : up.length ≤ 64) (a b : Int) : joinN (turnedN up) a b = meetN up a b := by
  unfold joinN meetN
  rw [turnedN_len]
  refine firstN_congr fun c _ => ?_
  rw [Bool.eq_iff_iff, isJ_iff, isM_iff]
  simp only [leqZ_turned up h]
theorem meetN_many (up : List Nat) (h : 64 < up.length) (a b : Int) : meetN up a b = -1 := firstN_none fun j _ => by
  cases e : isM up a b j
  · rfl
  · have := (isM_iff.1 e).1
    rw [leqZ_out (.inl h)] at this
    cases this
def TurnEnd (up : List Nat) (n : Nat) (w : World) (e : Ending) (w' : World) : Prop := ∃ A c, e = .returned (.slice A n c) ∧ ArgU w' A n c (turnedN up) ∧ Below w.heap.size w w'
set_option maxRecDepth 100000 in
set_option maxHeartbeats 1000000 in
theorem r3turned_any (up : List Nat) (A : Option Addr) (n c : Nat) (w : World) (h : ArgU w A n c up) (hn : n ≤ 64) :
    Calls Tryz.prog 111 #[.slice A n c] w (TurnEnd up n w) := by
  have HA := Lib.hid h
  have HD := Lib.hid (fun w1 (h1 : Below w.heap.size w w1) (a : Int) => r3Down_any up A n c a w1 (h.below h1) (by omega))
  have HN := Lib.hid h.len
  clear h
  obtain ⟨j0, hj, jz0, jz1, jz2⟩ := info_parts u64info
  go_enter Tryz.func111, Tryz.ntmps111
  go_wp2
  go_loopw [3, 4] (fun v i wr => ∃ k : Nat, k ≤ n ∧ i = .int .i64 k ∧ wr.ownsRow w.heap.size 37 1 v k (((List.range k).map fun i : Nat => downN up i).map u64V) ∧ Below w.heap.size w wr) (fun _ i _ => n - (intOf i).toNat)
  case atStart => exact ⟨0, Nat.zero_le _, rfl, World.ownsRow_nil _ _ _ _, Below.refl _ _⟩
  case round =>
    obtain ⟨k, hk, rfl, hO, hB⟩ := hrel
    have HO := Lib.hid hO
    have HB := Lib.hid hB
    clear hO hB
    by_cases hlt : k < n
    · have HE : Hid (((List.range (k + 1)).map fun i : Nat => downN up i).map u64V = ((List.range k).map fun i : Nat => downN up i).map u64V ++ [.int .u64 (downN up (k : Int) : Int)]) := Lib.hid (by
        rw [List.range_succ, List.map_append, List.map_append]
        rfl)
      have HC := Lib.hid (fun w1 h1 => HD.out w1 h1 (k : Int))
      generalize downN up (k : Int) = y at HC HE
      go_wp2_with (first
        | (go_at_call 128; refine (HC.out _ ?_).mono ?_; (exact HB.out); rintro e w' ⟨rfl, rfl⟩)
        | (at_builtin; refine wpList_append_own _ rfl _ _ 24 rfl w.heap.size 37 j0 (.int .u64 0) 1 8 Tryz.underlying24 hj jz0 jz1 jz2 rfl (by decide) _ k _ rfl (HO.out.alloc _) ⟨wr.heap.size, 0, none⟩ 1 1 [.int .u64 (y : Int)] rfl rfl ?_ ?_ ?_ ?_ ?_ ?_; (exact cell_one_new _ _ _); (intro u hu; simp at hu; subst hu; rfl); (unfold maxLen; omega); (omega); (have hq := HB.out.size; simp; omega); intro v4 w4 h7 h8 h9; have O4 := Lib.hid h7; have B4 := Lib.hid (below_own (HB.out.alloc HB.out.size (.cells #[.int .u64 (y : Int)] 37)) h8 (HO.out.alloc (.cells #[.int .u64 (y : Int)] 37)) (by have := HB.out.size; simp; omega)); clear h7 h8 h9))
      go_roundw
      case rel =>
        refine ⟨k + 1, by omega, by go_num, ?_, B4.out⟩
        rw [HE.out]
        exact O4.out
      case measure => simp [intOf]; omega
    · obtain ⟨w3, hw3⟩ : ∃ w3 : World, w3 = wr := ⟨_, rfl⟩
      subst hw3
      obtain rfl : k = n := by omega
      have hL : k = (turnedN up).length := by rw [turnedN_len]; exact HN.out
      have hO := HO.out
      have hl : ((List.range k).map fun i : Nat => downN up i) = turnedN up := by unfold turnedN; rw [HN.out]
      rw [hl] at hO
      obtain ⟨A', c', hv, ha, _⟩ := argU_own hO hL (turnedN_big up (by have := HN.out; omega))
      have HQ := Lib.hid ha
      subst hv
      clear hO hl ha hL
      go_wp2
      go_ret
      exact ⟨A', c', rfl, HQ.out, HB.out⟩

theorem all_more (p : Nat → Bool) (d : Nat) : (List.range (d + 1)).all p = ((List.range d).all p && p d) := by simp [List.range_succ]
theorem isJ_all (up : List Nat) (a b : Int) (c : Nat) : isJ up a b c = ((leqZ up a c && leqZ up b c) && (List.range up.length).all fun d => !(leqZ up a d && leqZ up b d) || leqZ up c d) := rfl
set_option maxRecDepth 100000 in
set_option maxHeartbeats 1000000 in
theorem r3Join_any (up : List Nat) (A : Option Addr) (n c : Nat) (a b : Int) (w : World) (h : ArgU w A n c up) (hn : n ≤ 1000000) :
    Calls Tryz.prog 70 #[.slice A n c, .int .i64 a, .int .i64 b] w fun e w' => e = .returned (.int .i64 (joinN up a b)) ∧ w = w' := by
  have HL := Lib.hid (fun (a b : Int) => r3Leq_any up A n c a b w h hn)
  have HN := Lib.hid h.len
  clear h
  go_enter Tryz.func70, Tryz.ntmps70
  go_wp2
  go_loop [7] (fun i => ∃ k : Nat, k ≤ n ∧ i = .int .i64 k ∧ ∀ j, j < k → isJ up a b j = false) (fun i => n - (intOf i).toNat)
  case atStart => exact ⟨0, Nat.zero_le _, rfl, fun j hj => absurd hj (by omega)⟩
  case round =>
    obtain ⟨k, hk, rfl, hj⟩ := hrel
    have HJ := Lib.hid hj
    clear hj
    by_cases hlt : k < n
    · have HA := Lib.hid (HL.out a (k : Int))
      have HB := Lib.hid (HL.out b (k : Int))
      have HI := Lib.hid (isJ_all up a b k)
      rw [← HN.out] at HI
      generalize leqZ up a k = v1 at HA HI
      generalize leqZ up b k = v2 at HB HI
      by_cases hv : v1 = true ∧ v2 = true
      · obtain ⟨rfl, rfl⟩ := hv
        go_wp2_with (first | (go_at_call 110; (with_reducible refine HA.out.mono ?_); rintro e w' ⟨rfl, rfl⟩) | (go_at_call 110; (with_reducible refine HB.out.mono ?_); rintro e w' ⟨rfl, rfl⟩))
        go_loop [8, 9] (fun f i => ∃ d : Nat, d ≤ n ∧ i = .int .i64 d ∧ f = .bool ((List.range d).all fun d => !(leqZ up a d && leqZ up b d) || leqZ up k d)) (fun _ i => n - (intOf i).toNat)
        case atStart => exact ⟨0, Nat.zero_le _, rfl, rfl⟩
        case round =>
          obtain ⟨d, hd, rfl, rfl⟩ := hrel
          have HM := Lib.hid (all_more (fun d : Nat => !(leqZ up a d && leqZ up b d) || leqZ up k d) d)
          by_cases hdl : d < n
          · have HPa := Lib.hid (HL.out a (d : Int))
            have HPb := Lib.hid (HL.out b (d : Int))
            have HPk := Lib.hid (HL.out (k : Int) (d : Int))
            have HF : Hid (((List.range d).all fun d : Nat => !(leqZ up a d && leqZ up b d) || leqZ up k d) = false → isJ up a b k = false) := Lib.hid (fun hf => by
              rw [HI.out, Bool.true_and, Bool.true_and, Bool.eq_false_iff]
              intro hall
              rw [List.all_eq_true] at hall
              rw [Bool.eq_false_iff] at hf
              exact hf (List.all_eq_true.2 fun x hx => hall x (by simp at hx ⊢; omega)))
            generalize ((List.range d).all fun d : Nat => !(leqZ up a d && leqZ up b d) || leqZ up k d) = g at HM HF
            generalize leqZ up a d = p1 at HPa HM
            generalize leqZ up b d = p2 at HPb HM
            generalize leqZ up k d = p3 at HPk HM
            cases g
            · go_wp2
              go_round
              case rel => exact ⟨k + 1, by omega, by go_num, fun j hj => by
                by_cases e : j = k
                · subst e; exact HF.out rfl
                · exact HJ.out j (by omega)⟩
              case measure => simp [intOf]; omega
            · clear HF
              cases p1 <;> cases p2 <;> cases p3
              all_goals
                go_wp2_with (first | (go_at_call 110; (with_reducible refine HPa.out.mono ?_); rintro e w' ⟨rfl, rfl⟩) | (go_at_call 110; (with_reducible refine HPb.out.mono ?_); rintro e w' ⟨rfl, rfl⟩) | (go_at_call 110; (with_reducible refine HPk.out.mono ?_); rintro e w' ⟨rfl, rfl⟩))
                go_round
                case rel => exact ⟨d + 1, by omega, by go_num, by rw [HM.out]; rfl⟩
                case measure => simp [intOf]; omega
          · obtain rfl : d = n := by omega
            rw [Bool.true_and, Bool.true_and] at HI
            have HQ : Hid (isJ up a b k = true → joinN up a b = k) := Lib.hid (fun hq => firstN_some (by have := HN.out; omega) hq HJ.out)
            rw [HI.out] at HQ
            generalize ((List.range d).all fun d : Nat => !(leqZ up a d && leqZ up b d) || leqZ up k d) = g at HI HQ
            clear HM
            cases g
            · go_wp2
              go_round
              case rel => exact ⟨k + 1, by omega, by go_num, fun j hj => by
                by_cases e : j = k
                · subst e; exact HI.out
                · exact HJ.out j (by omega)⟩
              case measure => simp [intOf]; omega
            · go_wp2
              go_ret
              exact ⟨ret_i64 (HQ.out trivial).symm, rfl⟩
      · have HF : Hid (isJ up a b k = false) := Lib.hid (by
          rw [HI.out]
          cases v1 <;> cases v2 <;> simp at hv ⊢)
        clear HI
        cases v1
        · clear hv
          go_wp2_with (first | (go_at_call 110; (with_reducible refine HA.out.mono ?_); rintro e w' ⟨rfl, rfl⟩) | (go_at_call 110; (with_reducible refine HB.out.mono ?_); rintro e w' ⟨rfl, rfl⟩))
          go_loop [8, 9] (fun f i => f = .bool false ∧ i = .int .i64 0) (fun _ i => 0)
          case atStart => exact ⟨rfl, rfl⟩
          case round =>
            obtain ⟨rfl, rfl⟩ := hrel
            go_wp2
            all_goals
              go_round
              case rel => exact ⟨k + 1, by omega, by go_num, fun j hj => by
                by_cases e : j = k
                · subst e; exact HF.out
                · exact HJ.out j (by omega)⟩
              case measure => simp [intOf]; omega
        · cases v2
          · clear hv
            go_wp2_with (first | (go_at_call 110; (with_reducible refine HA.out.mono ?_); rintro e w' ⟨rfl, rfl⟩) | (go_at_call 110; (with_reducible refine HB.out.mono ?_); rintro e w' ⟨rfl, rfl⟩))
            go_loop [8, 9] (fun f i => f = .bool false ∧ i = .int .i64 0) (fun _ i => 0)
            case atStart => exact ⟨rfl, rfl⟩
            case round =>
              obtain ⟨rfl, rfl⟩ := hrel
              go_wp2
              all_goals
                go_round
                case rel => exact ⟨k + 1, by omega, by go_num, fun j hj => by
                  by_cases e : j = k
                  · subst e; exact HF.out
                  · exact HJ.out j (by omega)⟩
                case measure => simp [intOf]; omega
          · exact absurd ⟨rfl, rfl⟩ hv
    · obtain rfl : k = n := by omega
      have HE : Hid (joinN up a b = -1) := Lib.hid (firstN_none (by rw [← HN.out]; exact HJ.out))
      go_wp2
      go_ret
      exact ⟨ret_i64 HE.out.symm, rfl⟩

theorem r3Meet_any (up : List Nat) (A : Option Addr) (n c : Nat) (a b : Int) (w : World) (h : ArgU w A n c up) (hn : n ≤ 1000000) :
    Calls Tryz.prog 71 #[.slice A n c, .int .i64 a, .int .i64 b] w fun e w' => e = .returned (.int .i64 (meetN up a b)) ∧ Below w.heap.size w w' := by
  by_cases h64 : n ≤ 64
  · have HT := Lib.hid (r3turned_any up A n c w h h64)
    have HE := Lib.hid (join_turned up (by have := h.len; omega) a b)
    clear h
    go_enter Tryz.func71, Tryz.ntmps71
    go_wp2_with (first | (go_at_call 111; refine HT.out.mono ?_; rintro e w1 ⟨A1, c1, rfl, h1, h2⟩; have H1 := Lib.hid h1; have B1 := Lib.hid h2; clear h1 h2) | (go_at_call 70; refine (r3Join_any (turnedN up) A1 n c1 a b w1 H1.out hn).mono ?_; rintro e w2 ⟨rfl, rfl⟩))
    go_ret
    exact ⟨ret_i64 HE.out, B1.out⟩
  · have HE := Lib.hid (meetN_many up (by have := h.len; omega) a b)
    clear h
    go_enter Tryz.func71, Tryz.ntmps71
    go_wp2
    go_ret
    exact ⟨ret_i64 HE.out.symm, Below.refl _ _⟩

end Go.Proofs.YtglkmpglpddfdaaGreatDoor
