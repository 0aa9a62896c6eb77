/- Layer 14: the document's answers, and the law's sizes: contracts, no statement. -/
import Derived.Test.YtnidommmnmpdlaaCtm
import Derived.Test.YtnidommmnmpdlaaZrw
namespace Go.Proofs.Ytnidommmnmpdlaa
open Go.RowKit
set_option linter.unusedVariables false

theorem RowZ.front {w : World} {A : Option Addr} {n c : Nat} {l : List Int} (h : RowZ w A n c l) {k : Nat} (hk : k ≤ n) : RowZ w A k c (l.take k) := by
  refine ⟨by rw [List.length_take, ← h.len]; omega, fun hx => ?_, h.nil, by have := h.room; omega, h.most⟩
  rw [List.length_map, List.length_take] at hx
  obtain ⟨g, off, hA, hr⟩ := h.reads (by rw [List.length_map]; omega)
  refine ⟨g, off, hA, fun j u hj => hr j u ?_⟩
  rw [List.map_take, List.getElem?_take] at hj
  split at hj
  · exact hj
  · cases hj
theorem RowZ.back {w : World} {A : Option Addr} {n c : Nat} {l : List Int} (h : RowZ w A n c l) {k : Nat} (hk : k ≤ n) : RowZ w (if c = k then A else A.map (·.add k)) (n - k) (c - k) (l.drop k) := by
  refine ⟨by rw [List.length_drop, h.len], h.reads.dropZ h.len h.room hk, fun e => ?_, by have := h.room; omega, by have := h.most; omega⟩
  rcases A with _ | a
  · have := h.nil rfl
    omega
  · split at e <;> cases e
/-- Sizes: as the laws bound them, with one more. -/
def SizZ (l : List Int) : Prop := (∀ x ∈ l, 0 ≤ x ∧ x ≤ 1000) ∧ l.length ≤ 101
theorem SizZ.front {l : List Int} (h : SizZ l) (k : Nat) : SizZ (l.take k) := ⟨fun x hx => h.1 x (List.mem_of_mem_take hx), by rw [List.length_take]; have := h.2; omega⟩
theorem SizZ.back {l : List Int} (h : SizZ l) (k : Nat) : SizZ (l.drop k) := ⟨fun x hx => h.1 x (List.mem_of_mem_drop hx), by rw [List.length_drop]; have := h.2; omega⟩
theorem SizZ.sum {l : List Int} (h : SizZ l) : 0 ≤ sumZ l ∧ sumZ l ≤ 101000 := by
  refine ⟨sumZ_pos (fun x hx => (h.1 x hx).1), ?_⟩
  have h1 := sumZ_most (l := l) (b := 1000) (fun x hx => (h.1 x hx).2)
  have h2 := h.2
  omega
theorem sumZ_take {l : List Int} (h : SizZ l) (k : Nat) : 0 ≤ sumZ (l.take k) ∧ sumZ (l.take k) ≤ 101000 := (h.front k).sum
set_option maxRecDepth 100000 in
theorem r14Sum_any (l : List Int) (A : Option Addr) (n c : Nat) (w : World) (h : RowZ w A n c l) (hs : SizZ l) :
    Calls Try.prog 10 #[.slice A n c] w fun e w' => e = .returned (.int .i64 (sumZ l)) ∧ w = w' := by
  have HA := Lib.hid h.reads
  have HN := Lib.hid h.len
  have hnn : n ≤ 101 := by rw [h.len]; exact hs.2
  have HS := Lib.hid hs
  clear h hs
  go_enter Try.func10, Try.ntmps10
  go_wp2
  go_loop [3, 4] (fun v i => ∃ k : Nat, k ≤ n ∧ i = .int .i64 (k : Int) ∧ v = .int .i64 (sumZ (l.take k))) (fun _ i => n - (intOf i).toNat)
  case atStart => exact ⟨0, Nat.zero_le _, rfl, by simp [sumZ]⟩
  case round =>
    obtain ⟨k, hk, rfl, rfl⟩ := hrel
    by_cases hlt : k < n
    · have hkl : k < l.length := by have := HN.out; omega
      obtain ⟨g, off, rfl, ck⟩ := HA.out.zint14 hkl
      have hm := HS.out.1 l[k] (List.getElem_mem hkl)
      have hb := sumZ_take HS.out k
      have HM := Lib.hid (sumZ_more hkl)
      obtain ⟨x, hx⟩ : ∃ x, l[k] = x := ⟨_, rfl⟩
      obtain ⟨q, hq⟩ : ∃ q, sumZ (l.take k) = q := ⟨_, rfl⟩
      rw [hx] at ck hm HM
      rw [hq] at hb HM ⊢
      obtain ⟨b1, b2⟩ := hb
      obtain ⟨m1, m2⟩ := hm
      have i0 : (0 : Int) ≤ (k : Int) := by omega
      have i1 : (k : Int) < (n : Int) := by omega
      clear hx hq hkl
      go_wp2
      go_round
      case rel => exact ⟨k + 1, by omega, by go_num, by rw [HM.out]⟩
      case measure => simp [intOf]; omega
    · obtain rfl : k = n := by omega
      have e : l.take k = l := List.take_of_length_le (by rw [← HN.out]; exact Nat.le_refl _)
      rw [e]
      have i1 : ¬ (k : Int) < (k : Int) := by omega
      go_wp2
      go_ret
      exact ⟨rfl, rfl⟩
set_option maxRecDepth 100000 in
theorem r14Low_any (l : List Int) (A : Option Addr) (n c : Nat) (w : World) (h : RowZ w A n c l) (hs : SizZ l) :
    Calls Try.prog 14 #[.slice A n c] w fun e w' => e = .returned (.bool (decide (sumZ l < 30))) ∧ w = w' := by
  have HS := Lib.hid (r14Sum_any l A n c w h hs)
  clear h hs
  go_enter Try.func14, Try.ntmps14
  go_wp2_with (go_at_call 10; (with_reducible refine HS.out.mono ?_); rintro e w1 ⟨rfl, rfl⟩)
  go_ret
  exact ⟨rfl, rfl⟩
set_option maxRecDepth 100000 in
theorem r14worse_any (l : List Int) (A : Option Addr) (n c k : Nat) (w : World) (h : RowZ w A n c l) (hs : SizZ l) (hk : k ≤ n) :
    Calls Try.prog 18 #[.slice A n c, .int .i64 (k : Int)] w fun e w' => e = .returned (.int .i64 (worseZ l k)) ∧ w = w' := by
  obtain ⟨AL, hAL⟩ : ∃ x, (if c = k then A else Option.map (fun x => x.add k) A) = x := ⟨_, rfl⟩
  have HA := Lib.hid (r14Sum_any (l.take k) A k c w (h.front hk) (hs.front k))
  have HB := Lib.hid (r14Sum_any (l.drop k) AL (n - k) (c - k) w (hAL ▸ h.back hk) (hs.back k))
  have hr1 := h.room
  have hr2 := h.most
  have hr3 : c ≤ 9223372036854775807 := by unfold maxLen at hr2; omega
  have hkI : (0 : Int) ≤ (k : Int) := by omega
  have hkn : (k : Int) ≤ (n : Int) := by omega
  have hkc : (k : Int) ≤ (c : Int) := by omega
  have HW : Hid (worseZ l k = if sumZ (l.drop k) < sumZ (l.take k) then sumZ (l.take k) else sumZ (l.drop k)) := Lib.hid rfl
  obtain ⟨a, ha⟩ : ∃ x, sumZ (l.take k) = x := ⟨_, rfl⟩
  obtain ⟨b, hb⟩ : ∃ x, sumZ (l.drop k) = x := ⟨_, rfl⟩
  rw [ha] at HA HW
  rw [hb] at HB HW
  clear h hs ha hb
  by_cases hlt : b < a
  · rw [if_pos hlt] at HW
    go_enter Try.func18, Try.ntmps18
    go_wp2_with (first
      | (go_at_call 10; (with_reducible refine HA.out.mono ?_); rintro e w1 ⟨rfl, rfl⟩)
      | (go_at_call 10; (with_reducible refine HB.out.mono ?_); rintro e w1 ⟨rfl, rfl⟩))
    go_ret
    rw [HW.out]
    exact ⟨rfl, rfl⟩
  · rw [if_neg hlt] at HW
    go_enter Try.func18, Try.ntmps18
    go_wp2_with (first
      | (go_at_call 10; (with_reducible refine HA.out.mono ?_); rintro e w1 ⟨rfl, rfl⟩)
      | (go_at_call 10; (with_reducible refine HB.out.mono ?_); rintro e w1 ⟨rfl, rfl⟩))
    go_ret
    rw [HW.out]
    exact ⟨rfl, rfl⟩
set_option maxRecDepth 100000 in
theorem r14Neigh_any (m k : Int) (w : World) (hm : 0 ≤ m ∧ m ≤ 1000) (hk : 0 ≤ k ∧ k ≤ 1000) :
    Calls Try.prog 16 #[.int .i64 m, .int .i64 k] w fun e w' => e = .returned (.int .i64 (if k + 1 < m then k + 1 else k - 1)) ∧ w = w' := by
  obtain ⟨m1, m2⟩ := hm
  obtain ⟨k1, k2⟩ := hk
  by_cases h : k + 1 < m
  · go_enter Try.func16, Try.ntmps16
    go_wp2
    go_ret
    exact ⟨rfl, rfl⟩
  · go_enter Try.func16, Try.ntmps16
    go_wp2
    go_ret
    exact ⟨rfl, rfl⟩
set_option maxRecDepth 100000 in
theorem r14At_any (l : List Int) (A : Option Addr) (n c : Nat) (w : World) (h : RowZ w A n c l) (hs : SizZ l) :
    Calls Try.prog 12 #[.slice A n c] w fun e w' => e = .returned (.int .i64 (atZ l)) ∧ w = w' := by
  have HS := Lib.hid (r14Sum_any l A n c w h hs)
  have HN := Lib.hid h.len
  have hnn : n ≤ 101 := by rw [h.len]; exact hs.2
  have HW : Hid (∀ (k : Nat) (i : Int), i = k → k ≤ n → Calls Try.prog 18 #[.slice A n c, .int .i64 i] w fun e w' => e = .returned (.int .i64 (worseZ l k)) ∧ w = w') := Lib.hid (fun k i hi hk => hi ▸ r14worse_any l A n c k w h hs hk)
  clear h hs
  obtain ⟨s, hsm⟩ : ∃ x, sumZ l = x := ⟨_, rfl⟩
  rw [hsm] at HS
  by_cases c1 : s ≤ 122
  · have HZ : Hid (atZ l = 0) := Lib.hid (atZ_zero (.inl (by rw [hsm]; exact c1)))
    go_enter Try.func12, Try.ntmps12
    go_wp2_with (go_at_call 10; (with_reducible refine HS.out.mono ?_); rintro e w1 ⟨rfl, rfl⟩)
    go_ret
    rw [HZ.out]
    exact ⟨rfl, rfl⟩
  by_cases c2 : n < 2
  · have HZ : Hid (atZ l = 0) := Lib.hid (atZ_zero (.inr (by rw [← HN.out]; exact c2)))
    have c3 : (n : Int) < 2 := by omega
    go_enter Try.func12, Try.ntmps12
    go_wp2_with (go_at_call 10; (with_reducible refine HS.out.mono ?_); rintro e w1 ⟨rfl, rfl⟩)
    go_ret
    rw [HZ.out]
    exact ⟨rfl, rfl⟩
  have HZ : Hid (atZ l = bestTo l (n - 1)) := Lib.hid (by rw [HN.out]; exact if_neg (by rw [hsm, ← HN.out]; omega))
  have c3 : ¬ (n : Int) < 2 := by omega
  go_enter Try.func12, Try.ntmps12
  go_wp2_with (go_at_call 10; (with_reducible refine HS.out.mono ?_); rintro e w1 ⟨rfl, rfl⟩)
  go_loop [3, 4] (fun v i => ∃ j : Nat, 1 ≤ j ∧ j + 1 ≤ n ∧ i = .int .i64 ((j + 1 : Nat) : Int) ∧ v = .int .i64 (bestTo l j : Int)) (fun _ i => n - (intOf i).toNat)
  case atStart => exact ⟨1, Nat.le_refl _, by omega, rfl, rfl⟩
  case round =>
    obtain ⟨j, hj, hjn, rfl, rfl⟩ := hrel
    by_cases hlt : j + 1 < n
    · have hb := bestTo_in l j hj
      have HM := Lib.hid (bestTo_more l hj)
      obtain ⟨b, hbb⟩ : ∃ x, bestTo l j = x := ⟨_, rfl⟩
      rw [hbb] at hb HM ⊢
      obtain ⟨b1, b2⟩ := hb
      have HX := Lib.hid (HW.out (j + 1) ((j : Int) + 1) (by omega) (by omega))
      have HY := Lib.hid (HW.out b (b : Int) rfl (by omega))
      obtain ⟨x, hx⟩ : ∃ x, worseZ l (j + 1) = x := ⟨_, rfl⟩
      obtain ⟨y, hy⟩ : ∃ x, worseZ l b = x := ⟨_, rfl⟩
      rw [hx] at HX HM
      rw [hy] at HY HM
      have i1 : ((j + 1 : Nat) : Int) < (n : Int) := by omega
      clear hx hy
      by_cases c4 : x < y
      · rw [if_pos c4] at HM
        go_wp2_with (first
          | (go_at_call 18; (with_reducible refine HX.out.mono ?_); rintro e w1 ⟨rfl, rfl⟩)
          | (go_at_call 18; (with_reducible refine HY.out.mono ?_); rintro e w1 ⟨rfl, rfl⟩))
        go_round
        case rel => exact ⟨j + 1, by omega, by omega, by go_num, by rw [HM.out]; rfl⟩
        case measure => simp [intOf]; omega
      · rw [if_neg c4] at HM
        go_wp2_with (first
          | (go_at_call 18; (with_reducible refine HX.out.mono ?_); rintro e w1 ⟨rfl, rfl⟩)
          | (go_at_call 18; (with_reducible refine HY.out.mono ?_); rintro e w1 ⟨rfl, rfl⟩))
        go_round
        case rel => exact ⟨j + 1, by omega, by omega, by go_num, by rw [HM.out]⟩
        case measure => simp [intOf]; omega
    · obtain rfl : n = j + 1 := by omega
      rw [Nat.add_sub_cancel] at HZ
      obtain ⟨b, hbb⟩ : ∃ x, bestTo l j = x := ⟨_, rfl⟩
      rw [hbb] at HZ ⊢
      have i1 : ¬ ((j + 1 : Nat) : Int) < ((j + 1 : Nat) : Int) := by omega
      go_wp2
      go_ret
      rw [HZ.out]
      exact ⟨rfl, rfl⟩
/-- Are numbers sizes, and few? -/
def fewZ (l : List Int) : Bool := l.all (fun x => decide (0 ≤ x) && decide (x ≤ 1000)) && decide (l.length ≤ 100)
theorem fewZ_iff {l : List Int} : fewZ l = true ↔ (∀ x ∈ l, 0 ≤ x ∧ x ≤ 1000) ∧ l.length ≤ 100 := by
  unfold fewZ
  rw [Bool.and_eq_true, List.all_eq_true, decide_eq_true_eq]
  constructor
  · exact fun ⟨h1, h2⟩ => ⟨fun x hx => by have := h1 x hx; rw [Bool.and_eq_true, decide_eq_true_eq, decide_eq_true_eq] at this; exact this, h2⟩
  · exact fun ⟨h1, h2⟩ => ⟨fun x hx => by have := h1 x hx; rw [Bool.and_eq_true, decide_eq_true_eq, decide_eq_true_eq]; exact this, h2⟩
theorem fewZ_siz {l : List Int} (h : fewZ l = true) : SizZ l := ⟨(fewZ_iff.1 h).1, by have := (fewZ_iff.1 h).2; omega⟩
theorem fewZ_not {l : List Int} {x : Int} (hx : x ∈ l) (h : ¬ (0 ≤ x ∧ x ≤ 1000)) : fewZ l = false := by
  rcases e : fewZ l with _ | _
  · rfl
  · exact absurd ((fewZ_iff.1 e).1 x hx) h
set_option maxRecDepth 100000 in
theorem sizes14_any (l : List Int) (A : Option Addr) (n c : Nat) (w : World) (h : RowZ w A n c l) :
    Calls Try.prog 8 #[.slice A n c] w fun e w' => e = .returned (.bool (fewZ l)) ∧ w = w' := by
  have HA := Lib.hid h.reads
  have HN := Lib.hid h.len
  have hr1 := h.room
  have hr2 := h.most
  have hnn : n ≤ 9223372036854775807 := by unfold maxLen at hr2; omega
  clear h hr1 hr2
  go_enter Try.func8, Try.ntmps8
  go_wp2
  go_loop [3] (fun i => ∃ k : Nat, k ≤ n ∧ i = .int .i64 (k : Int) ∧ ∀ x ∈ l.take k, 0 ≤ x ∧ x ≤ 1000) (fun i => n - (intOf i).toNat)
  case atStart => exact ⟨0, Nat.zero_le _, rfl, fun x hx => by simp at hx⟩
  case round =>
    obtain ⟨k, hk, rfl, hok⟩ := hrel
    have HOK := Lib.hid hok
    clear hok
    by_cases hlt : k < n
    · have hkl : k < l.length := by have := HN.out; omega
      obtain ⟨g, off, rfl, ck⟩ := HA.out.zint14 hkl
      have HIN := Lib.hid (List.getElem_mem hkl)
      have HT := Lib.hid (List.take_succ_eq_append_getElem hkl)
      obtain ⟨x, hx⟩ : ∃ x, l[k] = x := ⟨_, rfl⟩
      rw [hx] at ck HIN HT
      have i0 : (0 : Int) ≤ (k : Int) := by omega
      have i1 : (k : Int) < (n : Int) := by omega
      clear hx hkl
      by_cases c1 : x < 0
      · have HF := Lib.hid (fewZ_not HIN.out (by omega))
        go_wp2
        go_ret
        rw [HF.out]
        exact ⟨rfl, rfl⟩
      by_cases c2 : 1000 < x
      · have HF := Lib.hid (fewZ_not HIN.out (by omega))
        go_wp2
        go_ret
        rw [HF.out]
        exact ⟨rfl, rfl⟩
      go_wp2
      go_round
      case rel => exact ⟨k + 1, by omega, by go_num, fun y hy => by
        rw [HT.out, List.mem_append, List.mem_singleton] at hy
        rcases hy with hy | rfl
        · exact HOK.out y hy
        · omega⟩
      case measure => simp [intOf]; omega
    · obtain rfl : k = n := by omega
      have HL : Hid (∀ x ∈ l, 0 ≤ x ∧ x ≤ 1000) := Lib.hid (fun x hx => HOK.out x (by rw [List.take_of_length_le (by rw [← HN.out]; exact Nat.le_refl _)]; exact hx))
      have i1 : ¬ (k : Int) < (k : Int) := by omega
      by_cases c1 : k ≤ 100
      · have HF : Hid (fewZ l = true) := Lib.hid (fewZ_iff.2 ⟨HL.out, by rw [← HN.out]; exact c1⟩)
        have c2 : (k : Int) ≤ 100 := by omega
        go_wp2
        go_ret
        rw [HF.out]
        exact ⟨rfl, rfl⟩
      · have HF : Hid (fewZ l = false) := Lib.hid (by
          rcases e : fewZ l with _ | _
          · rfl
          · exact absurd (fewZ_iff.1 e).2 (by rw [← HN.out]; exact c1))
        have c2 : ¬ (k : Int) ≤ 100 := by omega
        go_wp2
        go_ret
        rw [HF.out]
        exact ⟨rfl, rfl⟩
end Go.Proofs.Ytnidommmnmpdlaa
