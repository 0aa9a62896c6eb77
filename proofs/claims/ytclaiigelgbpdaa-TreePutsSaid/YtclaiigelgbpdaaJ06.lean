import Derived.Test.YtclaiigelgbpdaaJ00
import Derived.Test.YtclaiigelgbpdaaJ01
import Derived.StillTail
/- Of a claim's texts, joined: Ndr Ndd Cta Tru Rdk. No statement but in the last. -/
section
namespace Go.Proofs.Ytclaiigelgbpdaa
open Go.RowKit
theorem retb {a b : Bool} (h : a = b) : Ending.returned (.bool a) = .returned (.bool b) := by rw [h]
end Go.Proofs.Ytclaiigelgbpdaa
end

section
namespace Go.Proofs.Ytclaiigelgbpdaa
open Go.RowKit
set_option linter.unusedVariables false

def lgB (z : Int) : Bool := decide (16 < z) && decide (z ≤ 400)
def needN (z : Int) : Nat := if 16 < z ∧ z ≤ 400 then (z.toNat + 118) / 119 else 0
theorem lg_need (z : Int) : lgB z = true ↔ needN z ≠ 0 := by
  unfold lgB needN
  by_cases h : 16 < z ∧ z ≤ 400
  · rw [if_pos h]
    simp only [h.1, h.2, decide_true, Bool.and_self, true_iff]
    omega
  · rw [if_neg h]
    simp only [ne_eq, not_true_eq_false, iff_false, Bool.and_eq_true, decide_eq_true_eq]
    exact h
theorem need_pos {z : Int} (h : lgB z = true) : needN z = (z.toNat + 118) / 119 ∧ 16 < z ∧ z ≤ 400 := by
  unfold lgB at h
  simp only [Bool.and_eq_true, decide_eq_true_eq] at h
  unfold needN
  rw [if_pos h]
  exact ⟨rfl, h⟩
theorem need_no {z : Int} (h : lgB z = false) : needN z = 0 := by
  by_cases h0 : needN z = 0
  · exact h0
  · rw [(lg_need z).2 h0] at h
    cases h
theorem reti {a b : Int} (h : a = b) : Ending.returned (.int .i64 a) = .returned (.int .i64 b) := by rw [h]
theorem isLong_any (z : Int) (w : World) : Calls Try.prog 81 #[.int .i64 z] w fun e w' => e = .returned (.bool (lgB z)) ∧ w = w' := by
  unfold lgB
  by_cases h0 : 16 < z
  · by_cases h1 : z ≤ 400
    · go_enter Try.func81, Try.ntmps81
      go_wp2
      go_ret
      exact ⟨retb (by simp; omega), rfl⟩
    · go_enter Try.func81, Try.ntmps81
      go_wp2
      go_ret
      exact ⟨retb (by simp; omega), rfl⟩
  · go_enter Try.func81, Try.ntmps81
    go_wp2
    go_ret
    exact ⟨retb (by simp; omega), rfl⟩
theorem hNeed_any (z : Int) (w : World) : Calls Try.prog 76 #[.int .i64 z] w fun e w' => e = .returned (.int .i64 (needN z : Int)) ∧ w = w' := by
  have HL := Lib.hid (isLong_any z w)
  cases h : lgB z
  · rw [h] at HL
    rw [need_no h]
    go_enter Try.func76, Try.ntmps76
    go_wp2_with (go_at_call 81; (with_reducible refine HL.out.mono ?_); rintro e w1 ⟨rfl, rfl⟩)
    go_ret
    exact ⟨rfl, rfl⟩
  · rw [h] at HL
    obtain ⟨e, h1, h2⟩ := need_pos h
    have HE := Lib.hid e
    clear e
    obtain ⟨n, rfl⟩ : ∃ n : Nat, z = (n : Int) := ⟨z.toNat, by omega⟩
    go_enter Try.func76, Try.ntmps76
    go_wp2_with (go_at_call 81; (with_reducible refine HL.out.mono ?_); rintro e w1 ⟨rfl, rfl⟩)
    go_ret
    exact ⟨reti (by rw [HE.out]; simp only [Int.toNat_natCast]; omega), rfl⟩
set_option maxRecDepth 100000 in
theorem r9Need_any (z : Int) (w : World) : Calls Try.prog 56 #[.int .i64 z] w fun e w' => e = .returned (.int .i64 (needN z : Int)) ∧ w = w' := by
  by_cases h0 : 16 < z
  · by_cases h1 : z ≤ 400
    · obtain ⟨n, rfl⟩ : ∃ n : Nat, z = (n : Int) := ⟨z.toNat, by omega⟩
      have HE : Hid (needN (n : Int) = (n + 118) / 119) := Lib.hid (by unfold needN; rw [if_pos ⟨h0, h1⟩]; simp)
      go_enter Try.func56, Try.ntmps56
      go_wp2
      go_loop [3] (fun s => ∃ k : Nat, s = .int .i64 k ∧ k ≤ 4 ∧ ((k : Int) - 1) * 119 < n) (fun s => 5 - (intOf s).toNat)
      case atStart => exact ⟨0, rfl, by omega, by omega⟩
      case round =>
        obtain ⟨k, rfl, hk, hk2⟩ := hrel
        by_cases hlt : (k : Int) * 119 < n
        · go_wp2
          go_round
          case rel => exact ⟨k + 1, by go_num, by omega, by omega⟩
          case measure => simp [intOf]; omega
        · go_wp2
          go_ret
          exact ⟨reti (by rw [HE.out]; omega), rfl⟩
    · rw [show needN z = 0 by unfold needN; rw [if_neg (by omega)]]
      go_enter Try.func56, Try.ntmps56
      go_wp2
      go_loop [3] (fun s => s = .int .i64 0) (fun s => 0)
      case atStart => rfl
      case round =>
        subst hrel
        go_wp2
        go_ret
        exact ⟨rfl, rfl⟩
  · rw [show needN z = 0 by unfold needN; rw [if_neg (by omega)]]
    go_enter Try.func56, Try.ntmps56
    go_wp2
    go_loop [3] (fun s => s = .int .i64 0) (fun s => 0)
    case atStart => rfl
    case round =>
      subst hrel
      go_wp2
      go_ret
      exact ⟨rfl, rfl⟩
end Go.Proofs.Ytclaiigelgbpdaa
end

section
namespace Go.Proofs.Ytclaiigelgbpdaa
open Go.RowKit
set_option linter.unusedVariables false

theorem RowZ.front {w : World} {A : Option Addr} {n c : Nat} {l : List Int} (h : RowZ w A n c l) {k : Nat} (hk : k ≤ n) : RowZ w A k c (l.take k) := by
  refine ⟨by rw [List.length_take, ← h.len]; omega, fun hx => ?_, h.nil, by have := h.room; omega, h.most⟩
  rw [List.length_map, List.length_take] at hx
  obtain ⟨g, off, hA, hr⟩ := h.reads (by rw [List.length_map]; omega)
  refine ⟨g, off, hA, fun j u hj => hr j u ?_⟩
  rw [List.map_take, List.getElem?_take] at hj
  split at hj
  · exact hj
  · cases hj
theorem RowZ.back {w : World} {A : Option Addr} {n c : Nat} {l : List Int} (h : RowZ w A n c l) {k : Nat} (hk : k ≤ n) : RowZ w (if c = k then A else A.map (·.add k)) (n - k) (c - k) (l.drop k) := by
  refine ⟨by rw [List.length_drop, h.len], h.reads.dropZ h.len h.room hk, fun e => ?_, by have := h.room; omega, by have := h.most; omega⟩
  rcases A with _ | a
  · have := h.nil rfl
    omega
  · split at e <;> cases e
def SizZ (l : List Int) : Prop := (∀ x ∈ l, 0 ≤ x ∧ x ≤ 1000) ∧ l.length ≤ 101
theorem SizZ.front {l : List Int} (h : SizZ l) (k : Nat) : SizZ (l.take k) := ⟨fun x hx => h.1 x (List.mem_of_mem_take hx), by rw [List.length_take]; have := h.2; omega⟩
theorem SizZ.back {l : List Int} (h : SizZ l) (k : Nat) : SizZ (l.drop k) := ⟨fun x hx => h.1 x (List.mem_of_mem_drop hx), by rw [List.length_drop]; have := h.2; omega⟩
theorem SizZ.sum {l : List Int} (h : SizZ l) : 0 ≤ sumZ l ∧ sumZ l ≤ 101000 := by
  refine ⟨sumZ_pos (fun x hx => (h.1 x hx).1), ?_⟩
  have h1 := sumZ_most (l := l) (b := 1000) (fun x hx => (h.1 x hx).2)
  have h2 := h.2
  omega
theorem sumZ_take {l : List Int} (h : SizZ l) (k : Nat) : 0 ≤ sumZ (l.take k) ∧ sumZ (l.take k) ≤ 101000 := (h.front k).sum
set_option maxRecDepth 100000 in
theorem r14Sum_any (l : List Int) (A : Option Addr) (n c : Nat) (w : World) (h : RowZ w A n c l) (hs : SizZ l) :
    Calls Try.prog 55 #[.slice A n c] w fun e w' => e = .returned (.int .i64 (sumZ l)) ∧ w = w' := by
  have HA := Lib.hid h.reads
  have HN := Lib.hid h.len
  have hnn : n ≤ 101 := by rw [h.len]; exact hs.2
  have HS := Lib.hid hs
  clear h hs
  go_enter Try.func55, Try.ntmps55
  go_wp2
  go_loop [3, 4] (fun v i => ∃ k : Nat, k ≤ n ∧ i = .int .i64 (k : Int) ∧ v = .int .i64 (sumZ (l.take k))) (fun _ i => n - (intOf i).toNat)
  case atStart => exact ⟨0, Nat.zero_le _, rfl, by simp [sumZ]⟩
  case round =>
    obtain ⟨k, hk, rfl, rfl⟩ := hrel
    by_cases hlt : k < n
    · have hkl : k < l.length := by have := HN.out; omega
      obtain ⟨g, off, rfl, ck⟩ := HA.out.zint14 hkl
      have hm := HS.out.1 l[k] (List.getElem_mem hkl)
      have hb := sumZ_take HS.out k
      have HM := Lib.hid (sumZ_more hkl)
      obtain ⟨x, hx⟩ : ∃ x, l[k] = x := ⟨_, rfl⟩
      obtain ⟨q, hq⟩ : ∃ q, sumZ (l.take k) = q := ⟨_, rfl⟩
      rw [hx] at ck hm HM
      rw [hq] at hb HM ⊢
      obtain ⟨b1, b2⟩ := hb
      obtain ⟨m1, m2⟩ := hm
      have i0 : (0 : Int) ≤ (k : Int) := by omega
      have i1 : (k : Int) < (n : Int) := by omega
      clear hx hq hkl
      go_wp2
      go_round
      case rel => exact ⟨k + 1, by omega, by go_num, by rw [HM.out]⟩
      case measure => simp [intOf]; omega
    · obtain rfl : k = n := by omega
      have e : l.take k = l := List.take_of_length_le (by rw [← HN.out]; exact Nat.le_refl _)
      rw [e]
      have i1 : ¬ (k : Int) < (k : Int) := by omega
      go_wp2
      go_ret
      exact ⟨rfl, rfl⟩
set_option maxRecDepth 100000 in
theorem r14Low_any (l : List Int) (A : Option Addr) (n c : Nat) (w : World) (h : RowZ w A n c l) (hs : SizZ l) :
    Calls Try.prog 44 #[.slice A n c] w fun e w' => e = .returned (.bool (decide (sumZ l < 30))) ∧ w = w' := by
  have HS := Lib.hid (r14Sum_any l A n c w h hs)
  clear h hs
  go_enter Try.func44, Try.ntmps44
  go_wp2_with (go_at_call 55; (with_reducible refine HS.out.mono ?_); rintro e w1 ⟨rfl, rfl⟩)
  go_ret
  exact ⟨rfl, rfl⟩
set_option maxRecDepth 100000 in
theorem r14worse_any (l : List Int) (A : Option Addr) (n c k : Nat) (w : World) (h : RowZ w A n c l) (hs : SizZ l) (hk : k ≤ n) :
    Calls Try.prog 57 #[.slice A n c, .int .i64 (k : Int)] w fun e w' => e = .returned (.int .i64 (worseZ l k)) ∧ w = w' := by
  obtain ⟨AL, hAL⟩ : ∃ x, (if c = k then A else Option.map (fun x => x.add k) A) = x := ⟨_, rfl⟩
  have HA := Lib.hid (r14Sum_any (l.take k) A k c w (h.front hk) (hs.front k))
  have HB := Lib.hid (r14Sum_any (l.drop k) AL (n - k) (c - k) w (hAL ▸ h.back hk) (hs.back k))
  have hr1 := h.room
  have hr2 := h.most
  have hr3 : c ≤ 9223372036854775807 := by unfold maxLen at hr2; omega
  have hkI : (0 : Int) ≤ (k : Int) := by omega
  have hkn : (k : Int) ≤ (n : Int) := by omega
  have hkc : (k : Int) ≤ (c : Int) := by omega
  have HW : Hid (worseZ l k = if sumZ (l.drop k) < sumZ (l.take k) then sumZ (l.take k) else sumZ (l.drop k)) := Lib.hid rfl
  obtain ⟨a, ha⟩ : ∃ x, sumZ (l.take k) = x := ⟨_, rfl⟩
  obtain ⟨b, hb⟩ : ∃ x, sumZ (l.drop k) = x := ⟨_, rfl⟩
  rw [ha] at HA HW
  rw [hb] at HB HW
  clear h hs ha hb
  by_cases hlt : b < a
  · rw [if_pos hlt] at HW
    go_enter Try.func57, Try.ntmps57
    go_wp2_with (first
      | (go_at_call 55; (with_reducible refine HA.out.mono ?_); rintro e w1 ⟨rfl, rfl⟩)
      | (go_at_call 55; (with_reducible refine HB.out.mono ?_); rintro e w1 ⟨rfl, rfl⟩))
    go_ret
    rw [HW.out]
    exact ⟨rfl, rfl⟩
  · rw [if_neg hlt] at HW
    go_enter Try.func57, Try.ntmps57
    go_wp2_with (first
      | (go_at_call 55; (with_reducible refine HA.out.mono ?_); rintro e w1 ⟨rfl, rfl⟩)
      | (go_at_call 55; (with_reducible refine HB.out.mono ?_); rintro e w1 ⟨rfl, rfl⟩))
    go_ret
    rw [HW.out]
    exact ⟨rfl, rfl⟩
set_option maxRecDepth 100000 in
theorem r14Neigh_any (m k : Int) (w : World) (hm : 0 ≤ m ∧ m ≤ 1000) (hk : 0 ≤ k ∧ k ≤ 1000) :
    Calls Try.prog 45 #[.int .i64 m, .int .i64 k] w fun e w' => e = .returned (.int .i64 (if k + 1 < m then k + 1 else k - 1)) ∧ w = w' := by
  obtain ⟨m1, m2⟩ := hm
  obtain ⟨k1, k2⟩ := hk
  by_cases h : k + 1 < m
  · go_enter Try.func45, Try.ntmps45
    go_wp2
    go_ret
    exact ⟨rfl, rfl⟩
  · go_enter Try.func45, Try.ntmps45
    go_wp2
    go_ret
    exact ⟨rfl, rfl⟩
set_option maxRecDepth 100000 in
theorem r14At_any (l : List Int) (A : Option Addr) (n c : Nat) (w : World) (h : RowZ w A n c l) (hs : SizZ l) :
    Calls Try.prog 40 #[.slice A n c] w fun e w' => e = .returned (.int .i64 (atZ l)) ∧ w = w' := by
  have HS := Lib.hid (r14Sum_any l A n c w h hs)
  have HN := Lib.hid h.len
  have hnn : n ≤ 101 := by rw [h.len]; exact hs.2
  have HW : Hid (∀ (k : Nat) (i : Int), i = k → k ≤ n → Calls Try.prog 57 #[.slice A n c, .int .i64 i] w fun e w' => e = .returned (.int .i64 (worseZ l k)) ∧ w = w') := Lib.hid (fun k i hi hk => hi ▸ r14worse_any l A n c k w h hs hk)
  clear h hs
  obtain ⟨s, hsm⟩ : ∃ x, sumZ l = x := ⟨_, rfl⟩
  rw [hsm] at HS
  by_cases c1 : s ≤ 122
  · have HZ : Hid (atZ l = 0) := Lib.hid (atZ_zero (.inl (by rw [hsm]; exact c1)))
    go_enter Try.func40, Try.ntmps40
    go_wp2_with (go_at_call 55; (with_reducible refine HS.out.mono ?_); rintro e w1 ⟨rfl, rfl⟩)
    go_ret
    rw [HZ.out]
    exact ⟨rfl, rfl⟩
  by_cases c2 : n < 2
  · have HZ : Hid (atZ l = 0) := Lib.hid (atZ_zero (.inr (by rw [← HN.out]; exact c2)))
    have c3 : (n : Int) < 2 := by omega
    go_enter Try.func40, Try.ntmps40
    go_wp2_with (go_at_call 55; (with_reducible refine HS.out.mono ?_); rintro e w1 ⟨rfl, rfl⟩)
    go_ret
    rw [HZ.out]
    exact ⟨rfl, rfl⟩
  have HZ : Hid (atZ l = bestTo l (n - 1)) := Lib.hid (by rw [HN.out]; exact if_neg (by rw [hsm, ← HN.out]; omega))
  have c3 : ¬ (n : Int) < 2 := by omega
  go_enter Try.func40, Try.ntmps40
  go_wp2_with (go_at_call 55; (with_reducible refine HS.out.mono ?_); rintro e w1 ⟨rfl, rfl⟩)
  go_loop [3, 4] (fun v i => ∃ j : Nat, 1 ≤ j ∧ j + 1 ≤ n ∧ i = .int .i64 ((j + 1 : Nat) : Int) ∧ v = .int .i64 (bestTo l j : Int)) (fun _ i => n - (intOf i).toNat)
  case atStart => exact ⟨1, Nat.le_refl _, by omega, rfl, rfl⟩
  case round =>
    obtain ⟨j, hj, hjn, rfl, rfl⟩ := hrel
    by_cases hlt : j + 1 < n
    · have hb := bestTo_in l j hj
      have HM := Lib.hid (bestTo_more l hj)
      obtain ⟨b, hbb⟩ : ∃ x, bestTo l j = x := ⟨_, rfl⟩
      rw [hbb] at hb HM ⊢
      obtain ⟨b1, b2⟩ := hb
      have HX := Lib.hid (HW.out (j + 1) ((j : Int) + 1) (by omega) (by omega))
      have HY := Lib.hid (HW.out b (b : Int) rfl (by omega))
      obtain ⟨x, hx⟩ : ∃ x, worseZ l (j + 1) = x := ⟨_, rfl⟩
      obtain ⟨y, hy⟩ : ∃ x, worseZ l b = x := ⟨_, rfl⟩
      rw [hx] at HX HM
      rw [hy] at HY HM
      have i1 : ((j + 1 : Nat) : Int) < (n : Int) := by omega
      clear hx hy
      by_cases c4 : x < y
      · rw [if_pos c4] at HM
        go_wp2_with (first
          | (go_at_call 57; (with_reducible refine HX.out.mono ?_); rintro e w1 ⟨rfl, rfl⟩)
          | (go_at_call 57; (with_reducible refine HY.out.mono ?_); rintro e w1 ⟨rfl, rfl⟩))
        go_round
        case rel => exact ⟨j + 1, by omega, by omega, by go_num, by rw [HM.out]; rfl⟩
        case measure => simp [intOf]; omega
      · rw [if_neg c4] at HM
        go_wp2_with (first
          | (go_at_call 57; (with_reducible refine HX.out.mono ?_); rintro e w1 ⟨rfl, rfl⟩)
          | (go_at_call 57; (with_reducible refine HY.out.mono ?_); rintro e w1 ⟨rfl, rfl⟩))
        go_round
        case rel => exact ⟨j + 1, by omega, by omega, by go_num, by rw [HM.out]⟩
        case measure => simp [intOf]; omega
    · obtain rfl : n = j + 1 := by omega
      rw [Nat.add_sub_cancel] at HZ
      obtain ⟨b, hbb⟩ : ∃ x, bestTo l j = x := ⟨_, rfl⟩
      rw [hbb] at HZ ⊢
      have i1 : ¬ ((j + 1 : Nat) : Int) < ((j + 1 : Nat) : Int) := by omega
      go_wp2
      go_ret
      rw [HZ.out]
      exact ⟨rfl, rfl⟩
def fewZ (l : List Int) : Bool := l.all (fun x => decide (0 ≤ x) && decide (x ≤ 1000)) && decide (l.length ≤ 100)
end Go.Proofs.Ytclaiigelgbpdaa
end

section
namespace Go.Proofs.Ytclaiigelgbpdaa
open Go.RowKit
set_option linter.unusedVariables false

def szC (lf : Bool) (e : CE) : Int := if lf = true then 3 + (e.k.length : Int) + (if 16 < e.d.length then 4 else (e.d.length : Int)) else 4 + (e.k.length : Int)
theorem both_map {α β γ : Type} {R : α → β → Prop} {a : List α} {b : List β} (h : Both R a b) {f : α → γ} {g : β → γ} (hf : ∀ x y, R x y → f x = g y) : a.map f = b.map g := by
  apply List.ext_getElem?
  intro i
  rw [List.getElem?_map, List.getElem?_map]
  by_cases hi : i < a.length
  · have hj : i < b.length := by rw [← h.1]; exact hi
    rw [List.getElem?_eq_getElem hi, List.getElem?_eq_getElem hj, Option.map_some, Option.map_some, hf _ _ (h.2 i _ _ (List.getElem?_eq_getElem hi) (List.getElem?_eq_getElem hj))]
  · rw [List.getElem?_eq_none (by omega), List.getElem?_eq_none (by have := h.1; omega)]
    rfl
theorem sizes_cells {F : Nat → Prop} {w : World} {es : List CE} {t : Tr} (h : cellsR F w es t) : es.map (szC (kindT t)) = sizesT t := by
  cases t with
  | leaf p l =>
    refine both_map (show Both (CellL F w) es l from h) fun x y hxy => ?_
    obtain ⟨⟨h1, h2⟩, _⟩ := hxy
    unfold szC sizeL
    rw [h1, h2]
    exact if_pos rfl
  | branch p l =>
    refine both_map (show Both (CellT F w) es l from h) fun x y hxy => ?_
    obtain ⟨v, ⟨⟨h1, _⟩, _⟩, _⟩ := hxy
    unfold szC
    rw [h1]
    exact if_neg (show ¬ (false = true) by decide)
def BndC (es : List CE) : Prop := es.length ≤ 100 ∧ ∀ e ∈ es, e.k.length ≤ 500 ∧ e.d.length ≤ 1000
theorem szC_in {lf : Bool} {e : CE} (h : e.k.length ≤ 500 ∧ e.d.length ≤ 1000) : 0 ≤ szC lf e ∧ szC lf e ≤ 1000 := by
  unfold szC
  split
  · split <;> omega
  · omega
theorem sizes_siz {lf : Bool} {es : List CE} (h : BndC es) : SizZ (es.map (szC lf)) := by
  refine ⟨fun x hx => ?_, by rw [List.length_map]; have := h.1; omega⟩
  obtain ⟨e, he, rfl⟩ := List.mem_map.1 hx
  exact szC_in (h.2 e he)
theorem needN_pos (n : Nat) : (needN (n : Int) = 0 ↔ ¬ (16 < n ∧ n ≤ 400)) := by
  unfold needN
  by_cases h : 16 < n ∧ n ≤ 400
  · rw [if_pos (by omega), Int.toNat_natCast]
    omega
  · rw [if_neg (by omega)]
    simp [h]
set_option maxRecDepth 100000 in
set_option maxHeartbeats 1000000 in
theorem r15Sizes_es (F : Nat → Prop) (v : NV) (es : List CE) (w : World) (h : RwF F w v.A v.n v.c 4 (flatC es)) (hb : BndC es) :
    Calls Try.prog 41 #[nvV v] w fun e w' => ∃ A c, e = .returned (.slice A es.length c) ∧ RowZ w' A es.length c (es.map (szC v.lf)) ∧ Below w.heap.size w w' := by
  obtain ⟨p, lf, A, n, c⟩ := v
  simp only at h
  unfold nvV
  simp only
  have hlen := h.len4
  obtain ⟨W, hW⟩ : ∃ W, w.alloc (.cells #[.int .i64 p, .bool lf, .slice A n c] 33) = W := ⟨_, rfl⟩
  have hB0 : Below w.heap.size w W := hW ▸ (Below.refl _ w).alloc (Nat.le_refl _) _
  have hX : Has W w.heap.size 33 #[.int .i64 p, .bool lf, .slice A n c] := hW ▸ Has.made w 33 _
  have HR := Lib.hid (h.below hB0)
  have hn : n ≤ 100 := by rw [hlen]; exact hb.1
  have HBD := Lib.hid hb
  have HN := Lib.hid hlen
  have HNd := Lib.hid (fun (z : Int) (w : World) => r9Need_any z w)
  have hbase : w.heap.size < W.heap.size := hX.lt
  have HB0 := Lib.hid hB0
  clear h hb hB0
  rw [← hlen]
  obtain ⟨P, hP⟩ : ∃ P, w.heap.size = P := ⟨_, rfl⟩
  rw [hP] at hX hbase
  obtain ⟨ti, hi, hz0, hz1, hz2⟩ := info_parts int_info13
  have hret : ∀ (v : Value) (w' : World), w'.ownsRow W.heap.size 3 1 v n ((es.map (szC lf)).map (Value.int .i64)) → Below W.heap.size W w' → ∃ A c, Ending.returned v = .returned (.slice A n c) ∧ RowZ w' A n c (es.map (szC lf)) ∧ Below w.heap.size w w' := by
    intro v w' ho hb
    obtain ⟨A, c, rfl, hr⟩ := RowZ.own ho
    exact ⟨A, c, rfl, hr, below_step HB0.out hb⟩
  have HRET := Lib.hid hret
  clear hret
  clear hlen
  go_enter Try.func41, Try.ntmps41
  go_wp2
  try rw [hP]
  clear hW hP
  go_loopw [3, 4] (fun v i wr => ∃ k : Nat, k ≤ n ∧ i = .int .i64 (k : Int) ∧ wr.ownsRow W.heap.size 3 1 v k (((es.take k).map (szC lf)).map (Value.int .i64)) ∧ Below W.heap.size W wr) (fun _ i _ => n - (intOf i).toNat)
  case atStart => exact ⟨0, Nat.zero_le _, rfl, World.ownsRow_nil _ _ _ _, Below.refl _ _⟩
  case round =>
    obtain ⟨k, hk, rfl, ho, hb⟩ := hrel
    have hXr := hX.below hb hX.lt
    have x1 := hXr.cell 1
    have x2 := hXr.cell 2
    have HO := Lib.hid ho
    have HB := Lib.hid hb
    by_cases hlt : k < n
    · obtain ⟨e, he⟩ : ∃ e, es[k]? = some e := ⟨_, List.getElem?_eq_getElem (by rw [← HN.out]; exact hlt)⟩
      obtain ⟨g, off, rfl, _, c0, c1, _, _⟩ := (HR.out.below hb).at4 he
      have hbe := HBD.out.2 e (List.mem_of_getElem? he)
      have HT : Hid (es.take (k + 1) = es.take k ++ [e]) := Lib.hid (by rw [List.take_add_one, he]; rfl)
      obtain ⟨kl, hkl⟩ : ∃ kl, e.k.length = kl := ⟨_, rfl⟩
      obtain ⟨dl, hdl⟩ : ∃ dl, e.d.length = dl := ⟨_, rfl⟩
      have hsk : (⟨e.k.toArray⟩ : ByteArray).size = kl := (size_list _).trans hkl
      have hsd : (⟨e.d.toArray⟩ : ByteArray).size = dl := (size_list _).trans hdl
      have HSC : Hid (szC lf e = if lf = true then 3 + (kl : Int) + (if 16 < dl then 4 else (dl : Int)) else 4 + (kl : Int)) := Lib.hid (by unfold szC; rw [hkl, hdl])
      rw [hkl, hdl] at hbe
      obtain ⟨m1, m2⟩ := hbe
      generalize (⟨e.k.toArray⟩ : ByteArray) = sk at *
      generalize (⟨e.d.toArray⟩ : ByteArray) = sd at *
      have i0 : (0 : Int) ≤ (k : Int) := by omega
      have i1 : (k : Int) < (n : Int) := by omega
      clear ho hb hkl hdl he hXr
      cases lf
      · have HSZ : Hid (szC false e = 4 + (kl : Int)) := Lib.hid (HSC.out.trans (if_neg (by decide)))
        clear HSC
        go_wp2_with (at_builtin; (refine wpList_append_own _ rfl _ _ 48 rfl W.heap.size 3 ti (.int .i64 0) 1 8 Try.underlying48 hi hz0 hz1 hz2 rfl (by decide) _ k _ rfl (HO.out.alloc _) ⟨wr.heap.size, 0, none⟩ 1 1 [.int .i64 (4 + (kl : Int))] rfl rfl (lies_one13 _ _ _) (by simp [Value.oneCell']) (by unfold maxLen; omega) (by omega) (Nat.le_trans HB.out.size (by simp)) ?_; intro v8 w8 h7 h8 hnil; clear hnil; have G8 : Hid (Below W.heap.size W w8) := Lib.hid (below_own14 (below_alloc' HB.out (.cells #[.int .i64 (4 + (kl : Int))] 3)) h8 (HO.out.alloc _) (Nat.le_trans HB.out.size (by simp))); have O8 := Lib.hid h7; clear h7 h8))
        go_roundw
        case rel => exact ⟨k + 1, by omega, by go_num, by rw [HT.out, List.map_append, List.map_append]; simpa [HSZ.out] using O8.out, G8.out⟩
        case measure => simp [intOf]; omega
      · have HOd : Hid (wr.drew.ownsRow W.heap.size 3 1 _ k (((es.take k).map (szC true)).map (Value.int .i64))) := Lib.hid HO.out
        have HBd : Hid (Below W.heap.size W wr.drew) := Lib.hid HB.out.drew
        by_cases hd : 16 < dl
        · have HSZ : Hid (szC true e = 7 + (kl : Int)) := Lib.hid (HSC.out.trans (by rw [if_pos rfl, if_pos hd]; omega))
          clear HSC
          by_cases hd2 : dl ≤ 400
          · have HND : Hid (∀ w1, Calls Try.prog 56 #[.int .i64 (dl : Int)] w1 fun e w' => e = .returned (.int .i64 (needN (dl : Int) : Int)) ∧ w1 = w') := Lib.hid (fun w1 => HNd.out _ w1)
            have hnz : 0 < needN (dl : Int) := Nat.pos_of_ne_zero (fun e => (needN_pos dl).1 e ⟨hd, hd2⟩)
            generalize needN (dl : Int) = nd at HND hnz
            have hnz2 : (0 : Int) < (nd : Int) := by omega
            go_wp2
            go_region
            go_wp2_with (first
              | (go_at_call 56; (with_reducible refine (HND.out _).mono ?_); rintro e w1 ⟨rfl, rfl⟩)
              | (at_builtin; (refine wpList_append_own _ rfl _ _ 48 rfl W.heap.size 3 ti (.int .i64 0) 1 8 Try.underlying48 hi hz0 hz1 hz2 rfl (by decide) _ k _ rfl (HOd.out.alloc _) ⟨wr.heap.size, 0, none⟩ 1 1 [.int .i64 (7 + (kl : Int))] rfl rfl (lies_one13 _ _ _) (by simp [Value.oneCell']) (by unfold maxLen; omega) (by omega) (Nat.le_trans HBd.out.size (by simp)) ?_; intro v8 w8 h7 h8 hnil; clear hnil; have G8 : Hid (Below W.heap.size W w8) := Lib.hid (below_own14 (below_alloc' HBd.out (.cells #[.int .i64 (7 + (kl : Int))] 3)) h8 (HOd.out.alloc _) (Nat.le_trans HBd.out.size (by simp))); have O8 := Lib.hid h7; clear h7 h8)))
            go_roundw
            case rel => exact ⟨k + 1, by omega, by go_num, by rw [HT.out, List.map_append, List.map_append]; simpa [HSZ.out] using O8.out, G8.out⟩
            case measure => simp [intOf]; omega
          · have HND : Hid (∀ w1, Calls Try.prog 56 #[.int .i64 (dl : Int)] w1 fun e w' => e = .returned (.int .i64 0) ∧ w1 = w') := Lib.hid (fun w1 => (HNd.out _ w1).mono (by rintro e w' ⟨rfl, rfl⟩; exact ⟨by rw [(needN_pos dl).2 (by omega)]; rfl, rfl⟩))
            have hd3 : (400 : Int) < (dl : Int) := by omega
            go_wp2
            go_region
            go_wp2_with (first
              | (go_at_call 56; (with_reducible refine (HND.out _).mono ?_); rintro e w1 ⟨rfl, rfl⟩)
              | (at_builtin; (refine wpList_append_own _ rfl _ _ 48 rfl W.heap.size 3 ti (.int .i64 0) 1 8 Try.underlying48 hi hz0 hz1 hz2 rfl (by decide) _ k _ rfl (HOd.out.alloc _) ⟨wr.heap.size, 0, none⟩ 1 1 [.int .i64 (7 + (kl : Int))] rfl rfl (lies_one13 _ _ _) (by simp [Value.oneCell']) (by unfold maxLen; omega) (by omega) (Nat.le_trans HBd.out.size (by simp)) ?_; intro v8 w8 h7 h8 hnil; clear hnil; have G8 : Hid (Below W.heap.size W w8) := Lib.hid (below_own14 (below_alloc' HBd.out (.cells #[.int .i64 (7 + (kl : Int))] 3)) h8 (HOd.out.alloc _) (Nat.le_trans HBd.out.size (by simp))); have O8 := Lib.hid h7; clear h7 h8)))
            go_roundw
            case rel => exact ⟨k + 1, by omega, by go_num, by rw [HT.out, List.map_append, List.map_append]; simpa [HSZ.out] using O8.out, G8.out⟩
            case measure => simp [intOf]; omega
        · have HSZ : Hid (szC true e = 3 + (kl : Int) + (dl : Int)) := Lib.hid (HSC.out.trans (by rw [if_pos rfl, if_neg hd]))
          clear HSC
          have HND : Hid (∀ w1, Calls Try.prog 56 #[.int .i64 (dl : Int)] w1 fun e w' => e = .returned (.int .i64 0) ∧ w1 = w') := Lib.hid (fun w1 => (HNd.out _ w1).mono (by rintro e w' ⟨rfl, rfl⟩; exact ⟨by rw [(needN_pos dl).2 (by omega)]; rfl, rfl⟩))
          have hd3 : ¬ (400 : Int) < (dl : Int) := by omega
          go_wp2
          go_region
          go_wp2_with (first
            | (go_at_call 56; (with_reducible refine (HND.out _).mono ?_); rintro e w1 ⟨rfl, rfl⟩)
            | (at_builtin; (refine wpList_append_own _ rfl _ _ 48 rfl W.heap.size 3 ti (.int .i64 0) 1 8 Try.underlying48 hi hz0 hz1 hz2 rfl (by decide) _ k _ rfl (HOd.out.alloc _) ⟨wr.heap.size, 0, none⟩ 1 1 [.int .i64 (3 + (kl : Int) + (dl : Int))] rfl rfl (lies_one13 _ _ _) (by simp [Value.oneCell']) (by unfold maxLen; omega) (by omega) (Nat.le_trans HBd.out.size (by simp)) ?_; intro v8 w8 h7 h8 hnil; clear hnil; have G8 : Hid (Below W.heap.size W w8) := Lib.hid (below_own14 (below_alloc' HBd.out (.cells #[.int .i64 (3 + (kl : Int) + (dl : Int))] 3)) h8 (HOd.out.alloc _) (Nat.le_trans HBd.out.size (by simp))); have O8 := Lib.hid h7; clear h7 h8)))
          go_roundw
          case rel => exact ⟨k + 1, by omega, by go_num, by rw [HT.out, List.map_append, List.map_append]; simpa [HSZ.out] using O8.out, G8.out⟩
          case measure => simp [intOf]; omega
    · obtain rfl : k = n := by omega
      have hall : (((es.take k).map (szC lf)).map (Value.int .i64)) = ((es.map (szC lf)).map (Value.int .i64)) := by rw [List.take_of_length_le (by rw [HN.out]; exact Nat.le_refl _)]
      have ho2 := HO.out
      rw [hall] at ho2
      have HFIN := Lib.hid (HRET.out _ _ ho2 hb)
      have i1 : ¬ (k : Int) < (k : Int) := by omega
      clear ho2 ho hb hall
      go_wp2
      go_ret
      exact HFIN.out
end Go.Proofs.Ytclaiigelgbpdaa
end

section
namespace Go.Proofs.Ytclaiigelgbpdaa
open Go.RowKit
set_option linter.unusedVariables false

section
variable {P : Program} {ops : Array Oper} {Q : Exit → Act → World → Prop} {md : Region.Mode} {C : World → Prop} {k : Nat}
def wpAnyK (P : Program) (md : Region.Mode) (ops : Array Oper) (Q : Exit → Act → World → Prop) (C : World → Prop) (k : Nat) : Nat → Array Bool → Act → World → Prop
  | 0, listed, a, w => Region.ready md ops listed = [] ∧ Q .normal a w
  | fuel + 1, listed, a, w =>
    (Region.ready md ops listed = [] → Q .normal a w) ∧
    ∀ i ∈ Region.ready md ops listed, wpOp P ops Q i (fun a' w' => ((listed.setIfInBounds i true).getD k false = true ∨ C w') ∧ wpAnyK P md ops Q C k fuel (listed.setIfInBounds i true) a' w') a w
theorem wpAny_of_K : ∀ (fuel : Nat) (listed : Array Bool) (a : Act) (w : World), wpAnyK P md ops Q C k fuel listed a w → wpAny P md ops Q fuel listed a w
  | 0, _, _, _, h => h
  | fuel + 1, _, _, _, h => ⟨h.1, fun i hi => wpOp_mono (fun a' w' h' => wpAny_of_K fuel _ a' w' h'.2) (h.2 i hi)⟩
theorem ready_waits {i : Nat} {oj : Oper} {listed : Array Bool} (hr : i ∈ Region.ready md ops listed) (hall : ∀ e ∈ oj.after, Region.binds md e = true → listed.getD e.on false = true) : ∀ e ∈ oj.after, Region.binds md e = true → e.on ≠ i := fun e he hb heq => by
  have h1 := hall e he hb
  have h0 := (mem_ready.1 hr).1
  rw [heq] at h1
  rcases Nat.lt_or_ge i listed.size with h' | h'
  · simp [h'] at h0 h1; rw [h0] at h1; cases h1
  · simp [Array.getElem?_eq_none h'] at h1
theorem wpAnyK_first {i : Nat} {oi : Oper} {v : Value} (hi : ops[i]? = some oi) (hsel : ∀ (j : Nat) (o : Oper) cs b, ops[j]? = some o → o.op ≠ .select cs b)
    (hQ : ∀ c a w, Q (.panic c) (a.put oi.dst v) w → Q (.panic c) a w) (hk : Region.waitsFor md ops k i = true) (hki : k ≠ i) :
    ∀ (fuel : Nat) (listed : Array Bool) (a : Act) (w : World),
      (∀ j oj, ops[j]? = some oj → j ≠ i → listed.getD j true = false → (∀ e ∈ oj.after, Region.binds md e = true → e.on ≠ i) → oi.apart ops oj = true) →
      i ∈ Region.ready md ops listed → listed.getD k false = false → YieldsIf P ops C oi v a → C w →
      wpAnyK P md ops Q C k fuel (listed.setIfInBounds i true) (a.put oi.dst v) w → wpAnyK P md ops Q C k (fuel + 1) listed a w := by
  intro fuel
  induction fuel with
  | zero =>
    intro listed a w _ hr hkl hy hS H
    refine ⟨fun h => (by rw [h] at hr; cases hr), fun j hj => ?_⟩
    by_cases hji : j = i
    · subst hji; exact hy.wpOp hi hS ⟨.inr hS, H⟩
    · have := ready_mono hj hji
      rw [H.1] at this
      cases this
  | succ fuel ih =>
    intro listed a w hfree hr hkl hy hS H
    refine ⟨fun h => (by rw [h] at hr; cases hr), fun j hj => ?_⟩
    by_cases hji : j = i
    · subst hji; exact hy.wpOp hi hS ⟨.inr hS, H⟩
    · have h1 := H.2 j (ready_mono hj hji)
      obtain ⟨hjun, oj, hoj, hall⟩ := mem_ready.1 hj
      have hnot := ready_waits (oj := oj) hr hall
      have hjk : k ≠ j := fun e => by
        subst e
        obtain ⟨ok, hok, e, he, hb, hon⟩ := Region.waitsFor_spec hk
        rw [hoj] at hok
        injection hok with hok
        subst hok
        exact hnot e he hb hon
      have h2 := wpOp_putIf hoj (hfree j oj hoj hji hjun hnot) (fun cs b => hsel i oi cs b hi) (fun cs b => hsel j oj cs b hoj) hQ hy h1
      have hfree' : ∀ k ok, ops[k]? = some ok → k ≠ i → (listed.setIfInBounds j true).getD k true = false →
          (∀ e ∈ ok.after, Region.binds md e = true → e.on ≠ i) → oi.apart ops ok = true := fun k ok hk hki hun hno => by
        refine hfree k ok hk hki ?_ hno
        by_cases hjk : j = k
        · subst hjk; exact hjun
        · rw [getD_set_ne true hjk] at hun; exact hun
      have hkl' : (listed.setIfInBounds j true).getD k false = false := by rw [getD_set_ne false (Ne.symm hjk)]; exact hkl
      refine wpOp_mono (fun a' w' h3 => ?_) h2
      have hC' : C w' := by
        rcases h3.2.1 with h | h
        · rw [getD_set_ne false (Ne.symm hjk), getD_set_ne false (Ne.symm hki), hkl] at h
          cases h
        · exact h
      refine ⟨.inr hC', ih (listed.setIfInBounds j true) a' w' hfree' (ready_mono hr (Ne.symm hji)) hkl' h3.1 hC' ?_⟩
      rw [Array.setIfInBounds_comm _ _ hji]
      exact h3.2.2
theorem wpAnyK_firstP {i : Nat} {oi : Oper} {v : Value} (hi : ops[i]? = some oi) (hsel : ∀ (j : Nat) (o : Oper) cs b, ops[j]? = some o → o.op ≠ .select cs b)
    (hQ : ∀ c a w, Q (.panic c) (a.put oi.dst v) w → Q (.panic c) a w) (hki : k ≠ i) :
    ∀ (fuel : Nat) (listed : Array Bool) (a : Act) (w : World),
      (∀ j oj, ops[j]? = some oj → j ≠ i → listed.getD j true = false → (∀ e ∈ oj.after, Region.binds md e = true → e.on ≠ i) → oi.apart ops oj = true) →
      i ∈ Region.ready md ops listed → (listed.getD k false = true ∨ C w) → YieldsIf P ops (fun _ => True) oi v a →
      wpAnyK P md ops Q C k fuel (listed.setIfInBounds i true) (a.put oi.dst v) w → wpAnyK P md ops Q C k (fuel + 1) listed a w := by
  intro fuel
  induction fuel with
  | zero =>
    intro listed a w _ hr hS hy H
    refine ⟨fun h => (by rw [h] at hr; cases hr), fun j hj => ?_⟩
    by_cases hji : j = i
    · subst hji; exact hy.wpOp hi trivial ⟨hS.imp (fun h => by rw [getD_set_ne false (Ne.symm hki)]; exact h) id, H⟩
    · have := ready_mono hj hji
      rw [H.1] at this
      cases this
  | succ fuel ih =>
    intro listed a w hfree hr hS hy H
    refine ⟨fun h => (by rw [h] at hr; cases hr), fun j hj => ?_⟩
    by_cases hji : j = i
    · subst hji; exact hy.wpOp hi trivial ⟨hS.imp (fun h => by rw [getD_set_ne false (Ne.symm hki)]; exact h) id, H⟩
    · have h1 := H.2 j (ready_mono hj hji)
      obtain ⟨hjun, oj, hoj, hall⟩ := mem_ready.1 hj
      have hnot := ready_waits (oj := oj) hr hall
      have h2 := wpOp_putIf hoj (hfree j oj hoj hji hjun hnot) (fun cs b => hsel i oi cs b hi) (fun cs b => hsel j oj cs b hoj) hQ hy h1
      have hfree' : ∀ k ok, ops[k]? = some ok → k ≠ i → (listed.setIfInBounds j true).getD k true = false →
          (∀ e ∈ ok.after, Region.binds md e = true → e.on ≠ i) → oi.apart ops ok = true := fun k ok hk hki hun hno => by
        refine hfree k ok hk hki ?_ hno
        by_cases hjk : j = k
        · subst hjk; exact hjun
        · rw [getD_set_ne true hjk] at hun; exact hun
      refine wpOp_mono (fun a' w' h3 => ?_) h2
      have hC' : (listed.setIfInBounds j true).getD k false = true ∨ C w' := by
        refine h3.2.1.imp (fun h => ?_) id
        rw [Array.setIfInBounds_comm _ _ (Ne.symm hji), getD_set_ne false (Ne.symm hki)] at h
        exact h
      refine ⟨hC', ih (listed.setIfInBounds j true) a' w' hfree' (ready_mono hr (Ne.symm hji)) hC' h3.1 ?_⟩
      rw [Array.setIfInBounds_comm _ _ hji]
      exact h3.2.2
theorem wpAnyK_take {i : Nat} {oi : Oper} {v : Value} {fuel : Nat} {listed : Array Bool} {a : Act} {w : World} (hi : ops[i]? = some oi)
    (hs : Region.noSelect ops = true) (hf : Region.free md ops listed i = true) (hr : (Region.ready md ops listed).contains i = true) (hk : Region.waitsFor md ops k i = true) (hki : k ≠ i) (hkl : listed.getD k false = false)
    (hQ : ∀ c a w, Q (.panic c) (a.put oi.dst v) w → Q (.panic c) a w) (hy : YieldsIf P ops C oi v a) (hS : C w)
    (h : wpAnyK P md ops Q C k fuel (listed.setIfInBounds i true) (a.put oi.dst v) w) : wpAnyK P md ops Q C k (fuel + 1) listed a w :=
  wpAnyK_first hi (Region.noSelect_spec hs) hQ hk hki fuel listed a w (Region.free_spec hi hf) (by simpa using hr) hkl hy hS h
theorem wpAnyK_pure {i : Nat} {oi : Oper} {v : Value} {fuel : Nat} {listed : Array Bool} {a : Act} {w : World} (hi : ops[i]? = some oi)
    (hs : Region.noSelect ops = true) (hf : Region.free md ops listed i = true) (hr : (Region.ready md ops listed).contains i = true) (hki : k ≠ i)
    (hQ : ∀ c a w, Q (.panic c) (a.put oi.dst v) w → Q (.panic c) a w) (hy : YieldsIf P ops (fun _ => True) oi v a) (hS : listed.getD k false = true ∨ C w)
    (h : wpAnyK P md ops Q C k fuel (listed.setIfInBounds i true) (a.put oi.dst v) w) : wpAnyK P md ops Q C k (fuel + 1) listed a w :=
  wpAnyK_firstP hi (Region.noSelect_spec hs) hQ hki fuel listed a w (Region.free_spec hi hf) (by simpa using hr) hS hy h
theorem wpAnyK_one {i : Nat} {o : Oper} {fuel : Nat} {listed : Array Bool} {a : Act} {w : World} (hr : Region.ready md ops listed = [i]) (ho : ops[i]? = some o)
    (h : ∀ K' : Act → World → Prop, Shut (∀ a w, ((listed.setIfInBounds i true).getD k false = true ∨ C w) → wpAnyK P md ops Q C k fuel (listed.setIfInBounds i true) a w → K' a w) → if Region.wanted o (yielded ops a.tmps) = true then Oper.wp P o a w K' Q else K' (a.put o.dst undef) w) :
    wpAnyK P md ops Q C k (fuel + 1) listed a w :=
  ⟨fun h0 => (by rw [hr] at h0; cases h0), fun j hj => by
    rw [hr] at hj
    obtain rfl : j = i := by simpa using hj
    exact wpOp_step ho (fun K' hK => h K' (fun a w hS hW => hK a w ⟨hS, hW⟩))⟩
theorem wpAnyK_done {listed : Array Bool} {a : Act} {w : World} (hr : Region.ready md ops listed = []) (h : Q .normal a w) :
    ∀ fuel, wpAnyK P md ops Q C k fuel listed a w
  | 0 => ⟨hr, h⟩
  | _ + 1 => ⟨fun _ => h, by rw [hr]; simp⟩
theorem wp_heldK {id : Nat} {K : Act → World → Prop} {a : Act} {w : World} (C : World → Prop) (k : Nat) (M : Act → World → Prop)
    (hm : P.follows .mixedOrders = true)
    (h : wpAnyK P .any ops (Runs M) C k ops.size (Array.replicate ops.size false) a w.drew) (h2 : ∀ a w, M a w → K a w) : (Code.region id ops true).wp P (Exit.then K Q) a w :=
  wp_mono (Q := Runs M) (wp_region_any hm (wpAny_of_K _ _ _ _ h)) (fun e a w h => by cases e <;> first | exact h2 _ _ h | exact False.elim h)
end

end Go.Proofs.Ytclaiigelgbpdaa
end
