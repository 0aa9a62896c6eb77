import Derived.Test.YthcjledpjlpfaaaDoorJFlo
import Derived.Test.YthcjledpjlpfaaaDoorJFlv
import Derived.Test.YthcjledpjlpfaaaDoorJ11
import Derived.Test.YthcjledpjlpfaaaDoorJ10
import Derived.Test.YthcjledpjlpfaaaDoorJ06
import Derived.Test.YthcjledpjlpfaaaDoorJ01
import Derived.Deep.Slices
import Derived.SliceStrings
import Derived.Test.YthcjledpjlpfaaaDoorJ05
/- Of a claim's texts, joined: Flp Flz Flaw LiPuts Argz Arg9. No statement but in the last. -/
section
namespace Go.Proofs.YthcjledpjlpfaaaDoor
open Go.RowKit
set_option linter.unusedVariables false

set_option maxRecDepth 100000 in
set_option maxHeartbeats 2000000 in
theorem r11Own_any (f v : Int) (hf : f ≤ 1000000) (hv : v ≤ 1000000) (w : World) : Calls Tryd.prog 15 #[.int .i64 f, .int .i64 v] w fun e w' => e = .returned (.int .i64 (ownL f v : Int)) ∧ w = w' := by
  have HN := Lib.hid (fun z hz w1 => r11Need_any z hz w1)
  have HL := Lib.hid (own_least f v)
  obtain ⟨m, hm⟩ : ∃ m, ownL f v = m := ⟨_, rfl⟩
  have hmb : m ≤ 60000 := by rw [← hm]; unfold ownL; omega
  rw [hm] at HL ⊢
  obtain ⟨a, ha⟩ : ∃ a : Nat, f.toNat = a := ⟨_, rfl⟩
  obtain ⟨b, hb⟩ : ∃ b : Nat, v.toNat = b := ⟨_, rfl⟩
  rw [ha, hb] at HL
  have hab1 : a ≤ 1000000 := by omega
  have hab2 : b ≤ 1000000 := by omega
  clear hm
  have H0 : Hid (0 ≤ m) := Lib.hid (Nat.zero_le _)
  by_cases hf0 : f < 0
  · obtain rfl : a = 0 := by omega
    by_cases hv0 : v < 0
    · obtain rfl : b = 0 := by omega
      clear ha hb
      go_enter Tryd.func15, Tryd.ntmps15
      go_wp2
      go_loop [5] (fun s => ∃ k : Nat, s = .int .i64 k ∧ k ≤ m) (fun s => m + 1 - (intOf s).toNat)
      case atStart => exact ⟨0, rfl, H0.out⟩
      case round =>
        obtain ⟨k, rfl, hk⟩ := hrel
        have hk3 : (k : Int) < 100000 := by omega
        have HK := Lib.hid (HL.out k)
        obtain ⟨q, hq⟩ : ∃ q, 0 - k = q := ⟨_, rfl⟩
        rw [hq] at HK
        obtain ⟨nd, hnd⟩ : ∃ nd, needL ((q : Int) + ((0 : Nat) : Int)) = nd := ⟨_, rfl⟩
        rw [hnd] at HK
        have hq0 : q = 0 := by omega
        subst hq0
        by_cases hle : k = 0
        · have hnn : ¬ (0 : Int) - (k : Int) < 0 := by omega
          have hnn2 : ¬ 0 < k := by omega
          have hkz : (k : Int) = 0 := by omega
          subst hle
          have HW : Hid (∀ w1 : World, Calls Tryd.prog 12 #[.int .i64 (0)] w1 fun e w' => e = .returned (.int .i64 (nd : Int)) ∧ w1 = w') := Lib.hid (fun w1 => by
            have h := HN.out (0) (by omega) w1
            rw [show needL (0) = nd by rw [← hnd] <;> congr 1 <;> omega] at h
            exact h)
          clear hnd hq
          by_cases hx : nd ≤ 0
          · have hkm : m = 0 := by have := HK.out.1 hx; omega
            subst hkm
            have hxI : (nd : Int) ≤ ((0 : Nat) : Int) := by omega
            clear hx
            go_wp2_with (go_at_call 12; (with_reducible refine (HW.out _).mono ?_); rintro e w1 ⟨rfl, rfl⟩; clear hk3)
            go_ret
            exact ⟨reti (by omega), rfl⟩
          · have HKM : Hid (0 < m) := Lib.hid (by have := mt HK.out.2 hx; omega)
            have hxI : ((0 : Nat) : Int) < (nd : Int) := by omega
            have HMB := Lib.hid hmb
            clear hx
            go_wp2_with (go_at_call 12; (with_reducible refine (HW.out _).mono ?_); rintro e w1 ⟨rfl, rfl⟩; clear hk3)
            go_round
            case rel => exact ⟨0 + 1, by go_num, by have := HKM.out; omega⟩
            case measure => (have := HKM.out); (simp [intOf]) <;> omega
        · have hnn : (0 : Int) - (k : Int) < 0 := by omega
          have hnn2 : 0 < k := by omega
          have HW : Hid (∀ w1 : World, Calls Tryd.prog 12 #[.int .i64 (0)] w1 fun e w' => e = .returned (.int .i64 (nd : Int)) ∧ w1 = w') := Lib.hid (fun w1 => by
            have h := HN.out (0) (by omega) w1
            rw [show needL (0) = nd by rw [← hnd] <;> congr 1 <;> omega] at h
            exact h)
          clear hnd hq
          by_cases hx : nd ≤ k
          · have hkm : k = m := by have := HK.out.1 hx; omega
            subst hkm
            have hxI : (nd : Int) ≤ (k : Int) := by omega
            clear hx
            go_wp2_with (go_at_call 12; (with_reducible refine (HW.out _).mono ?_); rintro e w1 ⟨rfl, rfl⟩; clear hk3)
            go_ret
            exact ⟨reti (by omega), rfl⟩
          · have HKM : Hid (k < m) := Lib.hid (by have := mt HK.out.2 hx; omega)
            have hxI : (k : Int) < (nd : Int) := by omega
            have HMB := Lib.hid hmb
            clear hx
            go_wp2_with (go_at_call 12; (with_reducible refine (HW.out _).mono ?_); rintro e w1 ⟨rfl, rfl⟩; clear hk3)
            go_round
            case rel => exact ⟨k + 1, by go_num, by have := HKM.out; omega⟩
            case measure => (have := HKM.out); (simp [intOf]) <;> omega
    · obtain rfl : v = (b : Int) := by omega
      clear ha hb
      go_enter Tryd.func15, Tryd.ntmps15
      go_wp2
      go_loop [5] (fun s => ∃ k : Nat, s = .int .i64 k ∧ k ≤ m) (fun s => m + 1 - (intOf s).toNat)
      case atStart => exact ⟨0, rfl, H0.out⟩
      case round =>
        obtain ⟨k, rfl, hk⟩ := hrel
        have hk3 : (k : Int) < 100000 := by omega
        have HK := Lib.hid (HL.out k)
        obtain ⟨q, hq⟩ : ∃ q, 0 - k = q := ⟨_, rfl⟩
        rw [hq] at HK
        obtain ⟨nd, hnd⟩ : ∃ nd, needL ((q : Int) + ((b : Nat) : Int)) = nd := ⟨_, rfl⟩
        rw [hnd] at HK
        have hq0 : q = 0 := by omega
        subst hq0
        by_cases hle : k = 0
        · have hnn : ¬ (0 : Int) - (k : Int) < 0 := by omega
          have hnn2 : ¬ 0 < k := by omega
          have hkz : (k : Int) = 0 := by omega
          subst hle
          have HW : Hid (∀ w1 : World, Calls Tryd.prog 12 #[.int .i64 ((b : Int))] w1 fun e w' => e = .returned (.int .i64 (nd : Int)) ∧ w1 = w') := Lib.hid (fun w1 => by
            have h := HN.out ((b : Int)) (by omega) w1
            rw [show needL ((b : Int)) = nd by rw [← hnd] <;> congr 1 <;> omega] at h
            exact h)
          clear hnd hq
          by_cases hx : nd ≤ 0
          · have hkm : m = 0 := by have := HK.out.1 hx; omega
            subst hkm
            have hxI : (nd : Int) ≤ ((0 : Nat) : Int) := by omega
            clear hx
            go_wp2_with (go_at_call 12; (with_reducible refine (HW.out _).mono ?_); rintro e w1 ⟨rfl, rfl⟩; clear hk3)
            go_ret
            exact ⟨reti (by omega), rfl⟩
          · have HKM : Hid (0 < m) := Lib.hid (by have := mt HK.out.2 hx; omega)
            have hxI : ((0 : Nat) : Int) < (nd : Int) := by omega
            have HMB := Lib.hid hmb
            clear hx
            go_wp2_with (go_at_call 12; (with_reducible refine (HW.out _).mono ?_); rintro e w1 ⟨rfl, rfl⟩; clear hk3)
            go_round
            case rel => exact ⟨0 + 1, by go_num, by have := HKM.out; omega⟩
            case measure => (have := HKM.out); (simp [intOf]) <;> omega
        · have hnn : (0 : Int) - (k : Int) < 0 := by omega
          have hnn2 : 0 < k := by omega
          have HW : Hid (∀ w1 : World, Calls Tryd.prog 12 #[.int .i64 ((b : Int))] w1 fun e w' => e = .returned (.int .i64 (nd : Int)) ∧ w1 = w') := Lib.hid (fun w1 => by
            have h := HN.out ((b : Int)) (by omega) w1
            rw [show needL ((b : Int)) = nd by rw [← hnd] <;> congr 1 <;> omega] at h
            exact h)
          clear hnd hq
          by_cases hx : nd ≤ k
          · have hkm : k = m := by have := HK.out.1 hx; omega
            subst hkm
            have hxI : (nd : Int) ≤ (k : Int) := by omega
            clear hx
            go_wp2_with (go_at_call 12; (with_reducible refine (HW.out _).mono ?_); rintro e w1 ⟨rfl, rfl⟩; clear hk3)
            go_ret
            exact ⟨reti (by omega), rfl⟩
          · have HKM : Hid (k < m) := Lib.hid (by have := mt HK.out.2 hx; omega)
            have hxI : (k : Int) < (nd : Int) := by omega
            have HMB := Lib.hid hmb
            clear hx
            go_wp2_with (go_at_call 12; (with_reducible refine (HW.out _).mono ?_); rintro e w1 ⟨rfl, rfl⟩; clear hk3)
            go_round
            case rel => exact ⟨k + 1, by go_num, by have := HKM.out; omega⟩
            case measure => (have := HKM.out); (simp [intOf]) <;> omega
  · obtain rfl : f = (a : Int) := by omega
    by_cases hv0 : v < 0
    · obtain rfl : b = 0 := by omega
      clear ha hb
      go_enter Tryd.func15, Tryd.ntmps15
      go_wp2
      go_loop [5] (fun s => ∃ k : Nat, s = .int .i64 k ∧ k ≤ m) (fun s => m + 1 - (intOf s).toNat)
      case atStart => exact ⟨0, rfl, H0.out⟩
      case round =>
        obtain ⟨k, rfl, hk⟩ := hrel
        have hk3 : (k : Int) < 100000 := by omega
        have HK := Lib.hid (HL.out k)
        obtain ⟨q, hq⟩ : ∃ q, a - k = q := ⟨_, rfl⟩
        rw [hq] at HK
        obtain ⟨nd, hnd⟩ : ∃ nd, needL ((q : Int) + ((0 : Nat) : Int)) = nd := ⟨_, rfl⟩
        rw [hnd] at HK
        by_cases hle : k ≤ a
        · have HSUB : Hid (((a : Nat) : Int) - (k : Int) = (q : Int)) := Lib.hid (by omega)
          have hnn : ¬ (a : Int) - (k : Int) < 0 := by omega
          have hqb : q ≤ 1000000 := by omega
          have HW : Hid (∀ w1 : World, Calls Tryd.prog 12 #[.int .i64 ((q : Int))] w1 fun e w' => e = .returned (.int .i64 (nd : Int)) ∧ w1 = w') := Lib.hid (fun w1 => by
            have h := HN.out ((q : Int)) (by omega) w1
            rw [show needL ((q : Int)) = nd by rw [← hnd] <;> congr 1 <;> omega] at h
            exact h)
          clear hnd hq
          by_cases hx : nd ≤ k
          · have hkm : k = m := by have := HK.out.1 hx; omega
            subst hkm
            have hxI : (nd : Int) ≤ (k : Int) := by omega
            clear hx
            go_wp2_with (go_at_call 12; (try rw [HSUB.out]); (with_reducible refine (HW.out _).mono ?_); rintro e w1 ⟨rfl, rfl⟩; clear hk3)
            go_ret
            exact ⟨reti (by omega), rfl⟩
          · have HKM : Hid (k < m) := Lib.hid (by have := mt HK.out.2 hx; omega)
            have hxI : (k : Int) < (nd : Int) := by omega
            have HMB := Lib.hid hmb
            clear hx
            go_wp2_with (go_at_call 12; (try rw [HSUB.out]); (with_reducible refine (HW.out _).mono ?_); rintro e w1 ⟨rfl, rfl⟩; clear hk3)
            go_round
            case rel => exact ⟨k + 1, by go_num, by have := HKM.out; omega⟩
            case measure => (have := HKM.out); (simp [intOf]) <;> omega
        · have hq0 : q = 0 := by omega
          subst hq0
          have hnn : (a : Int) - (k : Int) < 0 := by omega
          have HW : Hid (∀ w1 : World, Calls Tryd.prog 12 #[.int .i64 (0)] w1 fun e w' => e = .returned (.int .i64 (nd : Int)) ∧ w1 = w') := Lib.hid (fun w1 => by
            have h := HN.out (0) (by omega) w1
            rw [show needL (0) = nd by rw [← hnd] <;> congr 1 <;> omega] at h
            exact h)
          clear hnd hq
          by_cases hx : nd ≤ k
          · have hkm : k = m := by have := HK.out.1 hx; omega
            subst hkm
            have hxI : (nd : Int) ≤ (k : Int) := by omega
            clear hx
            go_wp2_with (go_at_call 12; (with_reducible refine (HW.out _).mono ?_); rintro e w1 ⟨rfl, rfl⟩; clear hk3)
            go_ret
            exact ⟨reti (by omega), rfl⟩
          · have HKM : Hid (k < m) := Lib.hid (by have := mt HK.out.2 hx; omega)
            have hxI : (k : Int) < (nd : Int) := by omega
            have HMB := Lib.hid hmb
            clear hx
            go_wp2_with (go_at_call 12; (with_reducible refine (HW.out _).mono ?_); rintro e w1 ⟨rfl, rfl⟩; clear hk3)
            go_round
            case rel => exact ⟨k + 1, by go_num, by have := HKM.out; omega⟩
            case measure => (have := HKM.out); (simp [intOf]) <;> omega
    · obtain rfl : v = (b : Int) := by omega
      clear ha hb
      go_enter Tryd.func15, Tryd.ntmps15
      go_wp2
      go_loop [5] (fun s => ∃ k : Nat, s = .int .i64 k ∧ k ≤ m) (fun s => m + 1 - (intOf s).toNat)
      case atStart => exact ⟨0, rfl, H0.out⟩
      case round =>
        obtain ⟨k, rfl, hk⟩ := hrel
        have hk3 : (k : Int) < 100000 := by omega
        have HK := Lib.hid (HL.out k)
        obtain ⟨q, hq⟩ : ∃ q, a - k = q := ⟨_, rfl⟩
        rw [hq] at HK
        obtain ⟨nd, hnd⟩ : ∃ nd, needL ((q : Int) + ((b : Nat) : Int)) = nd := ⟨_, rfl⟩
        rw [hnd] at HK
        by_cases hle : k ≤ a
        · have HSUB : Hid (((a : Nat) : Int) - (k : Int) = (q : Int)) := Lib.hid (by omega)
          have hnn : ¬ (a : Int) - (k : Int) < 0 := by omega
          have hqb : q ≤ 1000000 := by omega
          have HW : Hid (∀ w1 : World, Calls Tryd.prog 12 #[.int .i64 ((q : Int) + (b : Int))] w1 fun e w' => e = .returned (.int .i64 (nd : Int)) ∧ w1 = w') := Lib.hid (fun w1 => by
            have h := HN.out ((q : Int) + (b : Int)) (by omega) w1
            rw [show needL ((q : Int) + (b : Int)) = nd by rw [← hnd] <;> congr 1 <;> omega] at h
            exact h)
          clear hnd hq
          by_cases hx : nd ≤ k
          · have hkm : k = m := by have := HK.out.1 hx; omega
            subst hkm
            have hxI : (nd : Int) ≤ (k : Int) := by omega
            clear hx
            go_wp2_with (go_at_call 12; (try rw [HSUB.out]); (with_reducible refine (HW.out _).mono ?_); rintro e w1 ⟨rfl, rfl⟩; clear hk3)
            go_ret
            exact ⟨reti (by omega), rfl⟩
          · have HKM : Hid (k < m) := Lib.hid (by have := mt HK.out.2 hx; omega)
            have hxI : (k : Int) < (nd : Int) := by omega
            have HMB := Lib.hid hmb
            clear hx
            go_wp2_with (go_at_call 12; (try rw [HSUB.out]); (with_reducible refine (HW.out _).mono ?_); rintro e w1 ⟨rfl, rfl⟩; clear hk3)
            go_round
            case rel => exact ⟨k + 1, by go_num, by have := HKM.out; omega⟩
            case measure => (have := HKM.out); (simp [intOf]) <;> omega
        · have hq0 : q = 0 := by omega
          subst hq0
          have hnn : (a : Int) - (k : Int) < 0 := by omega
          have HW : Hid (∀ w1 : World, Calls Tryd.prog 12 #[.int .i64 ((b : Int))] w1 fun e w' => e = .returned (.int .i64 (nd : Int)) ∧ w1 = w') := Lib.hid (fun w1 => by
            have h := HN.out ((b : Int)) (by omega) w1
            rw [show needL ((b : Int)) = nd by rw [← hnd] <;> congr 1 <;> omega] at h
            exact h)
          clear hnd hq
          by_cases hx : nd ≤ k
          · have hkm : k = m := by have := HK.out.1 hx; omega
            subst hkm
            have hxI : (nd : Int) ≤ (k : Int) := by omega
            clear hx
            go_wp2_with (go_at_call 12; (with_reducible refine (HW.out _).mono ?_); rintro e w1 ⟨rfl, rfl⟩; clear hk3)
            go_ret
            exact ⟨reti (by omega), rfl⟩
          · have HKM : Hid (k < m) := Lib.hid (by have := mt HK.out.2 hx; omega)
            have hxI : (k : Int) < (nd : Int) := by omega
            have HMB := Lib.hid hmb
            clear hx
            go_wp2_with (go_at_call 12; (with_reducible refine (HW.out _).mono ?_); rintro e w1 ⟨rfl, rfl⟩; clear hk3)
            go_round
            case rel => exact ⟨k + 1, by go_num, by have := HKM.out; omega⟩
            case measure => (have := HKM.out); (simp [intOf]) <;> omega
end Go.Proofs.YthcjledpjlpfaaaDoor
end

section
namespace Go.Proofs.YthcjledpjlpfaaaDoor
open Go.RowKit
set_option linter.unusedVariables false

def wsL (l a : List Int) (k : Nat) : List Wr := (List.range k).map fun j => (a.getD j 0, pageL l a j)
theorem wsL_snoc (l a : List Int) (k : Nat) : wsL l a (k + 1) = wsL l a k ++ [(a.getD k 0, pageL l a k)] := by
  unfold wsL
  rw [List.range_succ, List.map_append]
  rfl
theorem okA_ne' {l a : List Int} (h : okA l a) {j k : Nat} (hj : j < a.length) (hk : k < a.length) (hjk : j ≠ k) : a.getD j 0 ≠ a.getD k 0 := by
  rcases Nat.lt_or_gt_of_ne hjk with h1 | h1
  · exact okA_ne h (getD_some hj) (getD_some hk) h1
  · exact (okA_ne h (getD_some hk) (getD_some hj) h1).symm
theorem okA_mem {l a : List Int} (h : okA l a) {p : Int} (hp : p ∈ a) : 2 ≤ p ∧ p ≤ 999 := by
  obtain ⟨k, hk⟩ := List.mem_iff_getElem?.1 hp
  exact okA_pg h hk
theorem pgW_wsL {l a : List Int} (h : okA l a) : ∀ (k j : Nat), k ≤ a.length → j < k → pgW (wsL l a k) (a.getD j 0) = pageL l a j
  | 0, j, _, hj => absurd hj (by omega)
  | k + 1, j, hk, hj => by
    rw [wsL_snoc, pgW_snoc]
    by_cases e : j = k
    · subst e
      rw [if_pos rfl]
    · rw [if_neg (okA_ne' h (by omega) (by omega) e)]
      exact pgW_wsL h k j (by omega) (by omega)
theorem PgT.of_putL {l a : List Int} {w w' : World} {T : Tg} {A : Option Addr} {n c : Nat} {q : List Hd} (hC : CellsA w' A n c q) (hq : lq q = (putL l a).1) (hr : ∀ x ∈ q, RowH w.heap.size w' x) (hA : Row w' 32 w.heap.size A (q.map Hd.v)) (hT : ∀ g, w.heap.size ≤ g → T g = none) : PgT w' T A n c q := by
  refine ⟨hC.len, ⟨hC.reads, fun hx a ha => by
    obtain ⟨g, off, cs, e, hg, _⟩ := hA hx
    rw [ha] at e
    injection e with e
    subst e
    exact hT g hg, hC.room, hC.most, hC.nil⟩, fun x hx => ?_⟩
  have h := hr x hx
  have hl : x.l.length = 128 := by
    have hm : x.l ∈ lq q := List.mem_map.2 ⟨x, hx, rfl⟩
    rw [hq] at hm
    unfold putL at hm
    split at hm
    · obtain ⟨j, _, e⟩ := List.mem_map.1 hm
      rw [← e]
      exact pageL_len l a j
    · cases hm
  refine ⟨⟨h.row.reads, fun hn a ha => ?_, h.room, h.most, fun ha => absurd ha (h.row.some_ (by rw [List.length_map]; omega))⟩, h.len.trans hl, hl⟩
  obtain ⟨g, off, cs, e, hg, _⟩ := h.row (by rw [List.length_map]; omega)
  rw [ha] at e
  injection e with e
  subst e
  exact hT g hg
theorem rd_lzL {rs : List Rg} {k n : Nat} {ws : List Wr} {l a : List Int} (hk : rs[k]? = some (lz n ws)) (ho : okA l a) (hn : ∀ x ∈ a, x < n) (hws : ∀ j, j < a.length → pgW ws (a.getD j 0) = pageL l a j) :
    ∀ j x, a[j]? = some x → (fun p => (rdL rs (k : Int) p, rdE rs (k : Int) p)) x = (pageL l a j, 0) := fun j x hx => by
  have hj := (List.getElem?_eq_some_iff.1 hx).1
  have hp := okA_pg ho hx
  have hlt := hn x (List.mem_of_getElem? hx)
  have e : a.getD j 0 = x := by rw [List.getD_eq_getElem?_getD, hx]; rfl
  simp only
  rw [rdL_at hk (by omega) hlt, rdE_at hk (by omega) hlt, ← hws j hj, e]
theorem lq_pgsL {l a : List Int} {q : List Hd} (h : lq q = pgsL l a) : q.length = a.length ∧ ∀ k (hk : k < q.length), (q[k]).l = pageL l a k := by
  have hl : q.length = a.length := by
    have := congrArg List.length h
    rw [lq_len] at this
    simpa [pgsL] using this
  refine ⟨hl, fun k hk => ?_⟩
  have h1 : (lq q)[k]? = some (q[k]).l := lq_at q hk
  rw [h] at h1
  unfold pgsL at h1
  rw [List.getElem?_map, List.getElem?_range (by omega)] at h1
  injection h1 with h1
  exact h1.symm
theorem step_writeL {wr : World} {W0 : World} {T : Tg} {D A N : Nat} {l a : List Int} {q : List Hd} {A3 : Option Addr} {n c3 : Nat} {k m : Nat} {rs : List Rg} {r : Nat} {ws : List Wr} (hZ : Dz W0 wr T 0 D A N rs) (hN : N ≤ 1000) (hr : rs[r]? = some (lz m ws)) (hP : PgT wr T A3 n c3 q) (hq : lq q = pgsL l a) (ho : okA l a) (hk : k < a.length) (hm : a.getD k 0 < m) :
    ∃ hkq : k < q.length, Calls Tryd.prog 18 #[.pointer (some ⟨D, 0, none⟩), .int .i64 (r : Int), .int .i64 (a.getD k 0), .slice (q[k]).a 128 (q[k]).c] wr (DzEnd (.int .i64 0) W0 wr T 0 D A (N + 1) (rs.set r (lz m (ws ++ [(a.getD k 0, pageL l a k)])))) := by
  obtain ⟨h1, h2⟩ := lq_pgsL hq
  have hkq : k < q.length := by omega
  refine ⟨hkq, ?_⟩
  have hx := hP.each _ (List.getElem_mem hkq)
  have hp := okA_pg ho (getD_some hk)
  have := Write_p (b := (q[k]).l) hZ hN hr (p := a.getD k 0) (by omega) hm hx.2.1 hx.1 hx.2.2
  rw [h2 k hkq, hx.2.1] at this
  exact this
theorem rdE_in {rs : List Rg} {x : Int} (h : ∀ r ∈ rs, r.size ≤ 1000) : ∀ p, rdE rs x p = 0 → 0 ≤ p ∧ p < 1000 := fun p hp => by
  unfold rdE at hp
  cases hr : regN rs x with
  | none => rw [hr] at hp; cases hp
  | some r =>
    rw [hr] at hp
    simp only at hp
    have hm : r ∈ rs := List.mem_of_getElem? (regN_some hr).2.2
    have h1 := h r hm
    split at hp
    · cases hp
    · split at hp
      · rename_i hb
        unfold hasB at hb
        simp only [Bool.and_eq_true, decide_eq_true_eq] at hb
        omega
      · cases hp
end Go.Proofs.YthcjledpjlpfaaaDoor
end

section
namespace Go.Proofs.YthcjledpjlpfaaaDoor
open Go.RowKit
set_option linter.unusedVariables false

def exL : List Int := [2, 7]
def exA : List Int := [4]
theorem ex_ok : goodL exL exA := by decide
theorem ex_ints (w1 V2 : World) (h : (w1.alloc (.cells #[.int .i64 2, .int .i64 7] 3)).alloc (.cells #[.int .i64 4] 3) = V2) : Ints6 V2 (some ⟨w1.heap.size, 0, none⟩) 2 exL ∧ Ints6 V2 (some ⟨w1.heap.size + 1, 0, none⟩) 1 exA ∧ Below w1.heap.size w1 V2 := by
  subst h
  refine ⟨(ints_lit w1 [2, 7] _ rfl).below9 ((Below.refl _ _).alloc (Nat.le_refl _) _), ?_, ((Below.refl _ w1).alloc (Nat.le_refl _) _).alloc (by simp) _⟩
  have := ints_lit (w1.alloc (.cells #[.int .i64 2, .int .i64 7] 3)) [4] _ rfl
  simpa [exA] using this
theorem awake_write {w w3 : World} {T3 : Tg} {D A : Nat} {A3 : Option Addr} {c3 : Nat} {q : List Hd} (hZ : Dz w w3 T3 0 D A 0 [fresh6 9]) (hP : PgT w3 T3 A3 1 c3 q) (hq : lq q = pgsL exL exA) :
    ∃ ya yc gA oA, A3 = some ⟨gA, oA, none⟩ ∧ w3.cell? ⟨gA, oA, none⟩ = some (.slice ya 128 yc) ∧ Calls Tryd.prog 18 #[.pointer (some ⟨D, 0, none⟩), .int .i64 0, .int .i64 4, .slice ya 128 yc] w3 fun e w' => e = .returned (.int .i64 0) ∧ ∃ T', Dz w w' T' 0 D A 1 [lz 9 [(4, pageL exL exA 0)]] := by
  obtain ⟨hkq, hw⟩ := step_writeL (r := 0) (rs := [fresh6 9]) (m := 9) (ws := []) (k := 0) hZ (by omega) rfl hP hq ex_ok.2.2 (by decide) (by decide)
  obtain ⟨gA, oA, e, hc⟩ := hP.at hkq
  have hy := (hP.each _ (List.getElem_mem hkq)).2.1
  rw [hy] at hc
  refine ⟨_, _, gA, oA, e, hc, hw.mono ?_⟩
  rintro e w' ⟨rfl, T', hz, _⟩
  exact ⟨rfl, T', hz⟩
theorem awake_get {w w5 : World} {T5 : Tg} {D A : Nat} (ht : Tab w) (hZ : Dz w w5 T5 0 D A 1 [lz 9 [(4, pageL exL exA 0)]]) :
    Calls Tryd.prog 20 #[.pointer (some ⟨D, 0, none⟩), .int .i64 0, .int .i64 4] w5 (GetEndL (exL, exA, 0) w5) := by
  have h := fGet_any 0 4 (ht.below hZ.bel) hZ.dk (rdE_in (x := 0) (by intro r hr; obtain rfl := List.mem_singleton.1 hr; show 9 ≤ 1000; decide))
  obtain ⟨ws, hws⟩ : ∃ ws, [((4 : Int), pageL exL exA 0)] = ws := ⟨_, rfl⟩
  have hw : ∀ j, j < exA.length → pgW ws (exA.getD j 0) = pageL exL exA j := fun j hj => by
    rw [← hws]
    exact pgW_wsL (l := exL) ex_ok.2.2 1 j (Nat.le_refl _) hj
  rw [hws] at h
  have hr := rd_lzL (rs := [lz 9 ws]) (k := 0) (n := 9) (ws := ws) rfl ex_ok.2.2 (by decide) hw
  have h1 := getL_put ex_ok (show 1 ≤ 1000 by omega) hr
  rw [show exA.getD 0 0 = 4 from rfl] at h1
  have e : getL (fun p => (rdL [lz 9 ws] 0 p, rdE [lz 9 ws] 0 p)) 4 = (exL, exA, 0) := h1
  rw [e] at h
  exact h
theorem own_ex : ownL 60 0 = 1 ∧ ownL 0 0 = 0 ∧ ownL 0 60 = 2 ∧ needL 59 = 1 ∧ needL 60 = 2 := by decide
set_option maxRecDepth 100000 in
set_option maxHeartbeats 4000000 in
theorem awake11_any (w : World) (ht : Tab w) : Calls Tryd.prog 8 #[] w fun e w' => e = .returned (.bool true) ∧ Below w.heap.size w w' := by
  obtain ⟨W, hW⟩ : ∃ W, w.alloc (.cells #[.int .i64 9] 3) = W := ⟨_, rfl⟩
  have hI : Ints6 W (some ⟨w.heap.size, 0, none⟩) 1 [9] := hW ▸ ints_lit w [9] _ rfl
  have hBW : Below w.heap.size w W := hW ▸ (Below.refl _ w).alloc (Nat.le_refl _) _
  have HNew := Lib.hid (New_z (w0 := w) (c := 1) 0 hI (lo_none _ _) hBW (by decide))
  have HW := Lib.hid hW
  have HT := Lib.hid ht
  have hput : putL exL exA = (pgsL exL exA, 0) := by unfold putL; rw [if_pos ex_ok]
  have HPU : Hid (∀ V A B, Tab V → Ints6 V A 2 exL → Ints6 V B 1 exA → Calls Tryd.prog 9 #[.slice A 2 2, .slice B 1 1] V (PutEndL exL exA V)) := Lib.hid (fun V A B t h1 h2 => fPut_any exL exA A 2 2 B 1 1 V t h1 h2 (by omega) (by omega) (by omega) (by decide))
  unfold PutEndL at HPU
  rw [hput] at HPU
  have HGE : Hid (∀ w5 T5 D A, Dz w w5 T5 0 D A 1 [lz 9 [(4, pageL exL exA 0)]] → Calls Tryd.prog 20 #[.pointer (some ⟨D, 0, none⟩), .int .i64 0, .int .i64 4] w5 (GetEndL (exL, exA, 0) w5)) := Lib.hid (fun w5 T5 D A hz => awake_get ht hz)
  unfold GetEndL at HGE
  have HWR := Lib.hid (fun w3 T3 D A A3 c3 q hz hp hq => awake_write (w := w) (w3 := w3) (T3 := T3) (D := D) (A := A) (A3 := A3) (c3 := c3) (q := q) hz hp hq)
  have HO1 := Lib.hid (fun w1 => fOwn_any 60 0 (by decide) (by decide) w1)
  have HO2 := Lib.hid (fun w1 => fOwn_any 0 0 (by decide) (by decide) w1)
  have HO3 := Lib.hid (fun w1 => fOwn_any 0 60 (by decide) (by decide) w1)
  have HN1 := Lib.hid (fun w1 => fNeed_any 59 (by decide) w1)
  have HN2 := Lib.hid (fun w1 => fNeed_any 60 (by decide) w1)
  rw [own_ex.1] at HO1
  rw [own_ex.2.1] at HO2
  rw [own_ex.2.2.1] at HO3
  rw [own_ex.2.2.2.1] at HN1
  rw [own_ex.2.2.2.2] at HN2
  have HR1 := Lib.hid (fun A c w1 (h : Ints6 w1 A 2 exL) w2 (e : w1.alloc (.cells #[.int .i64 2, .int .i64 7] 3) = w2) => r3Ints_z exL A (some ⟨w1.heap.size, 0, none⟩) 2 c 2 w2 rfl (h.below9 (e ▸ (Below.refl _ w1).alloc (Nat.le_refl _) _)).reads (e ▸ (ints_lit w1 exL _ rfl).reads) (by decide))
  have HR2 := Lib.hid (fun A c w1 (h : Ints6 w1 A 1 exA) w2 (e : w1.alloc (.cells #[.int .i64 4] 3) = w2) => r3Ints_z exA A (some ⟨w1.heap.size, 0, none⟩) 1 c 1 w2 rfl (h.below9 (e ▸ (Below.refl _ w1).alloc (Nat.le_refl _) _)).reads (e ▸ (ints_lit w1 exA _ rfl).reads) (by decide))
  clear hI hBW hW hput ht
  go_enter Tryd.func8, Tryd.ntmps8
  go_wp2_with (first
    | (go_at_call 16; go_loud ((try rw [HW.out]); (with_reducible refine HNew.out.mono ?_); rintro e w1 ⟨D, A, T1, rfl, h1, _, _⟩; have Z1 := Lib.hid h1; obtain ⟨V2, hV2⟩ : ∃ V2, (w1.alloc (.cells #[.int .i64 2, .int .i64 7] 3)).alloc (.cells #[.int .i64 4] 3) = V2 := ⟨_, rfl⟩; have I2 := Lib.hid (ex_ints w1 V2 hV2); have X2 := Lib.hid (h1.below I2.out.2.2); have HV2 := Lib.hid hV2; clear h1 hV2))
    | (go_at_call 9; go_loud ((try rw [HV2.out]); (with_reducible refine (HPU.out _ _ _ (HT.out.below X2.out.bel) I2.out.1 I2.out.2.1).mono ?_); rintro e w3 ⟨A3, n3, c3, q, rfl, hC, hq, hR, b3, hA⟩; have hn3 : n3 = 1 := hC.len.trans (lq_pgsL hq).1; subst hn3; obtain ⟨ya, yc, gA, oA, rfl, hc3, hw3⟩ := HWR.out w3 T1 D A _ _ q (X2.out.below b3) (PgT.of_putL (l := exL) (a := exA) (w := V2) (T := T1) hC (by have := ex_ok; unfold putL; rw [if_pos this]; exact hq) hR hA (fun g hg => X2.out.lo.un hg)) hq; have HW3 := Lib.hid hw3; clear hC hR b3 hA hq hw3))
    | (go_at_call 18; go_loud ((with_reducible refine HW3.out.mono ?_); rintro e w5 ⟨rfl, T5, z5⟩; have Z5 := Lib.hid z5; clear z5))
    | (go_at_call 20; go_loud ((with_reducible refine (HGE.out _ _ _ _ Z5.out).mono ?_); rintro e w6 ⟨A6, n6, c6, B6, m6, d6, rfl, h6, k6, b6⟩; have hn6 : n6 = 2 := h6.len; subst hn6; have hm6 : m6 = 1 := k6.len; subst hm6; have I6 := Lib.hid h6; have K6 := Lib.hid k6; have BB := Lib.hid (below_step Z5.out.bel b6); obtain ⟨V7, hV7⟩ : ∃ V7, w6.alloc (.cells #[.int .i64 2, .int .i64 7] 3) = V7 := ⟨_, rfl⟩; have HV7 := Lib.hid hV7; have B7 := Lib.hid (below_step BB.out (hV7 ▸ (Below.refl _ w6).alloc (Nat.le_refl _) _)); have K7 := Lib.hid (k6.below9 (hV7 ▸ (Below.refl _ w6).alloc (Nat.le_refl _) _)); clear h6 k6 b6 hV7))
    | (go_at_call 14; (first | (with_reducible refine (HO1.out _).mono ?_) | (with_reducible refine (HO2.out _).mono ?_) | (with_reducible refine (HO3.out _).mono ?_)); rintro e w5 ⟨rfl, rfl⟩)
    | (go_at_call 11; (first | (with_reducible refine (HN1.out _).mono ?_) | (with_reducible refine (HN2.out _).mono ?_)); rintro e w5 ⟨rfl, rfl⟩)
    | (go_at_call 22; (try rw [HV7.out]); (with_reducible refine (HR1.out _ _ _ I6.out _ HV7.out).mono ?_); rintro e w8 ⟨rfl, b8⟩; have B8 := Lib.hid (below_step B7.out b8); have K8 := Lib.hid (K7.out.below9 b8); obtain ⟨V9, hV9⟩ : ∃ V9, w8.alloc (.cells #[.int .i64 4] 3) = V9 := ⟨_, rfl⟩; have HV9 := Lib.hid hV9; have B9 := Lib.hid (below_step B8.out (hV9 ▸ (Below.refl _ w8).alloc (Nat.le_refl _) _)); clear b8 hV9)
    | (go_at_call 22; (try rw [HV9.out]); (with_reducible refine (HR2.out _ _ _ K8.out _ HV9.out).mono ?_); rintro e w10 ⟨rfl, b10⟩; have B10 := Lib.hid (below_step B9.out b10); clear b10))
  go_ret
  exact ⟨rfl, B10.out⟩
end Go.Proofs.YthcjledpjlpfaaaDoor
end

section
namespace Go.Proofs.YthcjledpjlpfaaaDoor
open Go.RowKit
set_option linter.unusedVariables false

set_option maxRecDepth 100000 in
set_option maxHeartbeats 8000000 in
theorem walkLiPuts (A : Option Addr) (n c : Nat) (l : List Int) (B : Option Addr) (m d : Nat) (a : List Int) (o : Nat) (W : World) (ht : Tab W) (h : Ints6 W A n l) (hc : n ≤ c) (hcm : c ≤ maxLen) (hB : Ints6 W B m a) (hd : m ≤ d) (hdm : d ≤ maxLen) (ho : o ≤ 4294967295) :
    Calls Tryd.prog 3 #[.slice A n c, .slice B m d, .int .u32 (o : Int)] W fun e W' => e = .returned (.bool true) ∧ Below W.heap.size W W' := by
  have hcI : (n : Int) ≤ 9223372036854775807 := by unfold maxLen at hcm; omega
  have hdI : (m : Int) ≤ 9223372036854775807 := by unfold maxLen at hdm; omega
  have HAW := Lib.hid (awake11_any W ht)
  by_cases hs : 400 < n
  · have hsI : (400 : Int) < (n : Int) := by omega
    clear hc hcm h hd hdm hB
    go_enter Tryd.func3, Tryd.ntmps3
    go_wp2_with (go_at_call 8; (with_reducible refine HAW.out.mono ?_); rintro e w1 ⟨rfl, b1⟩; have B1 := Lib.hid b1; clear b1)
    go_ret
    exact ⟨rfl, B1.out⟩
  · by_cases hn : 20 < m
    · have hsI : ¬ (400 : Int) < (n : Int) := by omega
      have hnI : (20 : Int) < (m : Int) := by omega
      clear hc hcm h hd hdm hB
      go_enter Tryd.func3, Tryd.ntmps3
      go_wp2_with (go_at_call 8; (with_reducible refine HAW.out.mono ?_); rintro e w1 ⟨rfl, b1⟩; have B1 := Lib.hid b1; clear b1)
      go_ret
      exact ⟨rfl, B1.out⟩
    · have hsI : ¬ (400 : Int) < (n : Int) := by omega
      have hnI : ¬ (20 : Int) < (m : Int) := by omega
      have HPU : Hid (∀ w1, Below W.heap.size W w1 → Calls Tryd.prog 9 #[.slice A n c, .slice B m d] w1 (PutEndL l a w1)) := Lib.hid (fun w1 b1 => fPut_any l a A n c B m d w1 (ht.below b1) (h.below9 b1) (hB.below9 b1) (by omega) (by omega) hc hcm)
      have HRU : Hid (∀ w1, Below W.heap.size W w1 → Calls Tryd.prog 10 #[.slice A n c, .slice B m d] w1 (RPutEndL l a w1)) := Lib.hid (fun w1 b1 => r11Put_any l a A n c B m d w1 (h.below9 b1) (hB.below9 b1) (by omega) (by omega) hd hdm)
      obtain ⟨⟨ps, er⟩, hp⟩ : ∃ p, putL l a = p := ⟨_, rfl⟩
      unfold PutEndL at HPU
      unfold RPutEndL at HRU
      rw [hp] at HPU HRU
      have hpl : ps.length ≤ 20 := by
        have h2 : ps = (putL l a).1 := by rw [hp]
        rw [h2]
        unfold putL
        split
        · simp [pgsL, ← hB.len]
          omega
        · simp
      obtain ⟨x, hx⟩ : ∃ x : Int, ((o % 2000 : Nat) : Int) - 10 = x := ⟨_, rfl⟩
      obtain ⟨y, hy⟩ : ∃ y : Int, ((o / 2000 % 2000 : Nat) : Int) - 10 = y := ⟨_, rfl⟩
      have hx1 : x ≤ 2000 := by omega
      have hy1 : y ≤ 2000 := by omega
      have HND := Lib.hid (fun w1 => fNeed_any x (by omega) w1)
      have HNR := Lib.hid (fun w1 => r11Need_any x (by omega) w1)
      have HOD := Lib.hid (fun w1 => fOwn_any x y (by omega) (by omega) w1)
      have HOR := Lib.hid (fun w1 => r11Own_any x y (by omega) (by omega) w1)
      have HX : Hid ((o : Int) % 2000 - 10 = x) := Lib.hid (by omega)
      have HY : Hid ((o : Int) / 2000 % 2000 - 10 = y) := Lib.hid (by omega)
      obtain ⟨j0, hj, jz0, jz1, jz2⟩ := info_parts stinfo
      have HB0 := Lib.hid (Below.refl W.heap.size W)
      clear h ht hs hn hp hB hx hy
      go_enter Tryd.func3, Tryd.ntmps3
      go_wp2_with (first
        | (go_at_call 8; (with_reducible refine HAW.out.mono ?_); rintro e w1 ⟨rfl, b1⟩; have B1 := Lib.hid b1; clear b1)
        | (go_at_call 9; go_loud ((with_reducible refine (HPU.out _ B1.out).mono ?_); rintro e w2 ⟨A2, n2, c2, q, rfl, hC, hq, _, b2, _⟩; have C2 := Lib.hid hC; have HQ := Lib.hid hq; have B2 := Lib.hid (below_step B1.out b2); have hqn : n2 = ps.length := (hC.len.trans (by rw [← lq_len, hq])); clear hC hq b2; subst hqn))
        | (go_at_call 10; go_loud ((with_reducible refine (HRU.out _ B2.out).mono ?_); rintro e w3 ⟨A3, n3, c3, rfl, hT, b3⟩; have T3 := Lib.hid hT; have C3 := Lib.hid (C2.out.below b3); have B3 := Lib.hid (below_step B2.out b3); clear hT b3)))
      go_loopw [12, 13] (fun v i wr => ∃ k : Nat, k ≤ ps.length ∧ i = .int .i64 (k : Int) ∧ wr.ownsRow w3.heap.size 9 1 v k ((ps.take k).map cstV) ∧ Below w3.heap.size w3 wr) (fun _ i _ => ps.length - (intOf i).toNat)
      case atStart => exact ⟨0, Nat.zero_le _, rfl, st_own_nil _ _, Below.refl _ _⟩
      case round =>
        obtain ⟨k, hk, rfl, ho, hb⟩ := hrel
        have HO := Lib.hid ho
        have HB := Lib.hid hb
        clear ho hb
        by_cases hlt : k < ps.length
        · have hCk := C3.out.below HB.out
          have hkq : k < q.length := by rw [← lq_len, HQ.out]; exact hlt
          obtain ⟨gq, oq, rfl, ck⟩ := hCk.at hkq
          have hy := hCk.hdr hkq
          have hyl : (q[k]).l = ps[k] := by
            have h1 := lq_at q hkq
            rw [HQ.out, List.getElem?_eq_getElem hlt] at h1
            injection h1 with h1
            exact h1.symm
          have HTK : Hid ((ps.take (k + 1)).map cstV = (ps.take k).map cstV ++ [cstV ps[k]]) := Lib.hid (by rw [List.take_succ_eq_append_getElem hlt, List.map_append]; rfl)
          have hcv := run_string_of (P := Tryd.prog) wr 32 9 5 Tryd.underlying32 Tryd.underlying5 Tryd.underlying9 (cap := (q[k]).c) hy.len hy.reads
          rw [hyl] at hcv
          generalize q[k] = y at ck hcv
          generalize hpk : ps[k] = pk at HTK hcv
          have HSV : Hid (cstV pk = .string ⟨pk.toArray⟩) := Lib.hid rfl
          generalize (⟨pk.toArray⟩ : ByteArray) = pb at hcv HSV
          have hkI : (k : Int) < (ps.length : Int) := by omega
          have hk0 : (0 : Int) ≤ (k : Int) := by omega
          clear hpk hy hyl hCk hkq
          go_wp2_with (at_builtin; go_loud (refine wpList_append_one rfl _ _ 29 9 rfl w3.heap.size 9 j0 _ 16 Tryd.underlying29 hj jz0 jz1 jz2 rfl _ k _ rfl HO.out (.string pb) rfl rfl ?_ ?_ ?_ ?_; (omega); (unfold maxLen; omega); (exact HB.out.size); intro v4 w4 h7 h8; have O4 := Lib.hid h7; have B4 := Lib.hid (HB.out.trans h8); clear h7 h8))
          go_roundw
          case rel =>
            refine ⟨k + 1, by omega, by go_num, ?_, B4.out⟩
            rw [HTK.out, HSV.out]
            exact O4.out
          case measure => simp [intOf]; omega
        · obtain rfl : k = ps.length := by omega
          have ho := HO.out
          rw [List.take_length] at ho
          obtain ⟨A5, c5, rfl, _, hT⟩ := TxtA.of_own ho
          have hn3 : n3 = ps.length := T3.out.len
          subst hn3
          have HS := Lib.hid (r7Same_any A5 A3 ps.length c5 ps.length c3 ps ps wr hT (T3.out.below HB.out) (by omega))
          have hsb : sameB ps ps = true := by unfold sameB; simp
          rw [hsb] at HS
          obtain ⟨w5, hw5⟩ : ∃ w5 : World, w5 = wr := ⟨_, rfl⟩
          subst hw5
          have B5 := Lib.hid (below_step B3.out HB.out)
          clear ho hT hsb
          go_wp2_with (first
            | (go_at_call 11; (try rw [HX.out]); (with_reducible refine (HND.out _).mono ?_); rintro e w6 ⟨rfl, rfl⟩)
            | (go_at_call 12; (try rw [HX.out]); (with_reducible refine (HNR.out _).mono ?_); rintro e w6 ⟨rfl, rfl⟩)
            | (go_at_call 13; go_loud ((with_reducible refine HS.out.mono ?_); rintro e w7 ⟨rfl, b7⟩; have B7 := Lib.hid (below_step B5.out b7); clear b7))
            | (go_at_call 14; (try rw [HX.out]); (try rw [HY.out]); (with_reducible refine (HOD.out _).mono ?_); rintro e w6 ⟨rfl, rfl⟩)
            | (go_at_call 15; (try rw [HX.out]); (try rw [HY.out]); (with_reducible refine (HOR.out _).mono ?_); rintro e w6 ⟨rfl, rfl⟩))
          go_ret
          exact ⟨retb (by simp), B7.out⟩

end Go.Proofs.YthcjledpjlpfaaaDoor
end

section
namespace Go.Proofs.YthcjledpjlpfaaaDoor
open Go.ChangeShapes Go.WideShapes Go.ChangeAt Go.RowKit Go.Deep
set_option linter.unusedVariables false

theorem arg_bytes_v {H : Type} {enc : TypeId × Value → H} {W : World} {fuel : Nat} {v : Value} {x : DataW H × List MemPlace} (h : DataW.trod enc Tryd.prog W 0 (fun _ => true) true fuel 32 [v] = some x) :
    ∃ (A : Option Addr) (n c : Nat) (l : List UInt8), v = .slice A n c ∧ Arg W A n c l := by
  rcases open_ints Tryd.underlying32 Tryd.underlying5 (by kernel_rfl) h with ⟨hcs, _⟩ | ⟨x, len, cap, zs, hcs, _, hl, hm, hz, hx, hcell, hwz⟩
  · simp at hcs
    exact ⟨none, 0, 0, [], hcs, rfl, Reads.empty, fun _ a ha => (by cases ha), Nat.le_refl _, Nat.zero_le _, fun _ => rfl⟩
  · simp at hcs
    have hz' : zs.length = cap := by simpa using hz
    obtain ⟨bs, hbl, hbm⟩ := bytes_of zs hwz
    have hat : ∀ i, i < zs.length → W.cell? (x.add i) = (zs.map (Value.int .u8))[i]? := fun i hi => by
      rw [hcell i hi]
      simp [hi]
    by_cases hc0 : cap = 0
    · have hn : len = 0 := by omega
      exact ⟨some x, len, cap, [], hcs, hn, Reads.empty, fun h => absurd h (by omega), hl, hm, fun h => by cases h⟩
    · obtain ⟨b, off, spot⟩ := x
      have hspot : spot = none := by
        have := hcell 0 (by omega)
        simpa [Addr.add] using World.cell?_spot this
      subst hspot
      have hblk : b < W.heap.size := by
        have := hcell 0 (by omega)
        exact World.block_lt_of_cell? W _ (by simpa [Addr.add] using this)
      refine ⟨_, len, cap, bs.take len, hcs, by simp; omega, fun hx => ⟨b, off, rfl, fun j u hj => ?_⟩, fun _ a ha => (by injection ha with ha; subst ha; exact hblk), hl, hm, fun h => by cases h⟩
      have hjn : j < len := by
        have := (List.getElem?_eq_some_iff.1 hj).1
        simp at this
        omega
      have h2 := hat j (by omega)
      rw [add_plain] at h2
      rw [h2, hbm]
      rw [List.map_take, List.getElem?_take, if_pos hjn] at hj
      exact hj

end Go.Proofs.YthcjledpjlpfaaaDoor
end

section
namespace Go.Proofs.YthcjledpjlpfaaaDoor
open Go.ChangeShapes Go.WideShapes Go.ChangeAt Go.RowKit Go.Deep
set_option linter.unusedVariables false

theorem arg_ints9 {H : Type} {enc : TypeId × Value → H} {W : World} {A : Option Addr} {n c : Nat} {d : DataW H} {p : List MemPlace} (h : DataW.Trod enc Tryd.prog W 0 (fun _ => true) true 22 (.slice A n c) d p) :
    ∃ l : List Int, Ints6 W A n l ∧ n ≤ c ∧ c ≤ maxLen := by
  obtain ⟨fuel, hf⟩ := h
  rcases open_ints Tryd.underlying22 Tryd.underlying3 (by kernel_rfl) hf with ⟨hcs, _⟩ | ⟨x, l, c', zs, hcs, _, hl, hm, hz, hx, hcell, hwz⟩
  · simp [Value.cells] at hcs
    obtain ⟨rfl, rfl, rfl⟩ := hcs
    exact ⟨[], ⟨rfl, Reads.empty⟩, Nat.le_refl _, Nat.zero_le _⟩
  · simp [Value.cells] at hcs
    obtain ⟨rfl, rfl, rfl⟩ := hcs
    have hz' : zs.length = c := by simpa using hz
    refine ⟨zs.take n, ⟨by simp; omega, fun hn => ?_⟩, hl, hm⟩
    have hn0 : 0 < n := by simp at hn; omega
    obtain ⟨b, off, spot⟩ := x
    have h0 := hcell 0 (by omega)
    have hspot : spot = none := by simpa [Addr.add] using World.cell?_spot h0
    subst hspot
    refine ⟨b, off, rfl, fun i y hy => ?_⟩
    have hin : i < n := by
      have := (List.getElem?_eq_some_iff.1 hy).1
      simp at this
      omega
    have hiz : i < zs.length := by omega
    have h2 := hcell i hiz
    rw [add_plain] at h2
    rw [h2]
    simp [hin, List.getElem?_eq_getElem hiz] at hy ⊢
    exact hy
structure Wq where
  p : Int
  h : Hd
structure WrsA (w : World) (A : Option Addr) (n : Nat) (l : List Wq) : Prop where
  len : n = l.length
  reads : 0 < n → ∃ b off, A = some ⟨b, off, none⟩ ∧ b < w.heap.size ∧ ∀ i x, l[i]? = some x → w.cell? ⟨b, off + i * 2, none⟩ = some (.int .i64 x.p) ∧ w.cell? ⟨b, off + i * 2 + 1, none⟩ = some (.slice x.h.a x.h.n x.h.c)
  each : ∀ x ∈ l, Arg w x.h.a x.h.n x.h.c x.h.l
set_option maxRecDepth 100000 in
theorem arg_writes9 {H : Type} {enc : TypeId × Value → H} {W : World} {A : Option Addr} {n c : Nat} {d : DataW H} {p : List MemPlace} (h : DataW.Trod enc Tryd.prog W 0 (fun _ => true) true 37 (.slice A n c) d p) :
    ∃ l : List Wq, WrsA W A n l ∧ n ≤ 9223372036854775807 := by
  obtain ⟨fuel, hf⟩ := h
  rcases open_slice Tryd.underlying37 hf with ⟨hcs, _⟩ | ⟨x, l, c', m, fu, D, Pl, hcs, _, hl, hm, hmm, _, hx⟩
  · simp [Value.cells] at hcs
    obtain ⟨rfl, rfl, rfl⟩ := hcs
    exact ⟨[], ⟨rfl, fun h => absurd h (Nat.lt_irrefl 0), fun x hx => by cases hx⟩, by omega⟩
  · simp [Value.cells] at hcs
    obtain ⟨rfl, rfl, rfl⟩ := hcs
    have hmn : n ≤ m := by rw [hmm]; split <;> omega
    have hnm : n ≤ 9223372036854775807 := by
      have : c ≤ 9223372036854775807 := by simpa [maxLen] using hm
      omega
    have ce : Tryd.prog.cellsOf 46 = 2 := by kernel_rfl
    have c1 : Tryd.prog.cellsOf 3 = 1 := by kernel_rfl
    have c2 : Tryd.prog.cellsOf 32 = 1 := by kernel_rfl
    have each : ∀ i, i < n → ∃ q : Wq, (W.cell? (x.add (i * 2)) = some (.int .i64 q.p) ∧ W.cell? (x.add (i * 2 + 1)) = some (.slice q.h.a q.h.n q.h.c)) ∧ Arg W q.h.a q.h.n q.h.c q.h.l := fun i hin => by
      obtain ⟨cs', h1, h2⟩ := hx i (by omega)
      rw [ce] at h1
      obtain ⟨_, hlen, hcell⟩ := World.cells?_some h1
      obtain ⟨xs, k, hk, hxy, _, hxl, hg⟩ := DataW.trod_struct Tryd.underlying46 h2
      match xs, hxl, cs', hlen with
      | [y0, y1], _, [v0, v1], _ =>
        have g0 := hg 0 _ rfl
        have g1 := hg 1 _ rfl
        simp [c1, c2] at g0 g1
        obtain ⟨k0, hk0, _, _⟩ := DataW.trod_int Tryd.underlying3 g0
        obtain ⟨kA, kn, kc, ks, hk1, t1⟩ := arg_bytes_v g1
        simp at hk0
        subst hk0 hk1
        have e0 := hcell 0 (by omega)
        have e1 := hcell 1 (by omega)
        rw [add_add] at e0 e1
        exact ⟨⟨k0, ⟨kA, kn, kc, ks⟩⟩, ⟨by simpa using e0, by simpa using e1⟩, t1⟩
    obtain ⟨q, hq⟩ := @choose_lt _ ⟨⟨0, ⟨none, 0, 0, []⟩⟩⟩ _ _ each
    refine ⟨(List.range n).map q, ⟨by simp, fun hn => ?_, fun y hy => ?_⟩, hnm⟩
    · obtain ⟨b, off, spot⟩ := x
      have h00 := (hq 0 hn).1.1
      have hspot : spot = none := by simpa [Addr.add] using World.cell?_spot h00
      subst hspot
      refine ⟨b, off, rfl, World.block_lt_of_cell? W _ (by simpa [Addr.add] using h00), fun i y hy => ?_⟩
      have hin : i < n := by
        have := (List.getElem?_eq_some_iff.1 hy).1
        simpa using this
      simp [hin] at hy
      subst hy
      obtain ⟨z0, z1⟩ := (hq i hin).1
      rw [add_plain] at z0 z1
      rw [← Nat.add_assoc] at z1
      exact ⟨z0, z1⟩
    · obtain ⟨i, hi, rfl⟩ := List.mem_map.1 hy
      exact (hq i (List.mem_range.1 hi)).2

end Go.Proofs.YthcjledpjlpfaaaDoor
end
