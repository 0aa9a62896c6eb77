/- The walk of the law GrantsRows. -/
import Derived.Test.YtbgpjboefnacgaaGrRowm
import Derived.Test.YtbgpjboefnacgaaGrGrow
import Derived.Test.YtbgpjboefnacgaaGrBack
import Derived.Test.YtbgpjboefnacgaaRdr
namespace Go.Proofs.Ytbgpjboefnacgaa
open Go.RowKit
set_option linter.unusedVariables false

theorem argG_any (w : World) (B : Option Addr) (d : Nat) (hd : d ≤ maxLen) : ArgG w B 0 d [] := ⟨rfl, fun h => absurd h (by simp [cellsG]), fun h => absurd h (by omega), Nat.zero_le _, hd⟩
theorem ArgG.dropAt {w : World} {b off n c k : Nat} {l : List G} (h : ArgG w (some ⟨b, off, none⟩) n c l) (hk : k ≤ n) : ArgG w (some ⟨b, off + k * 3, none⟩) (n - k) (c - k) (l.drop k) := by
  have hl := h.len
  refine ⟨by rw [List.length_drop]; omega, fun hn => ?_, fun hk' a ha => ?_, by have := h.room; omega, by have := h.most; omega⟩
  · obtain ⟨g, off', hA, hc⟩ := h.reads (by rw [cellsG_len] at hn ⊢; rw [List.length_drop] at hn; omega)
    injection hA with hA
    injection hA with q1 q2
    subst q1 q2
    refine ⟨b, off + k * 3, rfl, fun j u hj => ?_⟩
    rw [cellsG_drop, List.getElem?_drop] at hj
    have := hc _ _ hj
    rwa [show off + (3 * k + j) = off + k * 3 + j by omega] at this
  · injection ha with ha
    subst ha
    exact h.old (by omega) ⟨b, off, none⟩ rfl
theorem cells_add {w : World} {b off n c : Nat} {l : List G} (h : ArgG w (some ⟨b, off, none⟩) n c l) : ∀ (j : Nat) (u : Value), (cellsG l)[j]? = some u → w.cell? ((⟨b, off, none⟩ : Addr).add j) = some u := by
  intro j u hj
  obtain ⟨g, off', hA, hc⟩ := h.reads (by have := (List.getElem?_eq_some_iff.1 hj).1; omega)
  injection hA with hA
  injection hA with q1 q2
  subst q1 q2
  rw [add_plain]
  exact hc j u hj
theorem one_cellG (l : List G) : ∀ u ∈ cellsG l, u.oneCell' = true := by
  intro u hu
  obtain ⟨g, _, hg⟩ := List.mem_flatMap.1 hu
  simp [gC] at hg
  rcases hg with rfl | rfl | rfl <;> rfl
theorem checkG_small {up : List Nat} {l : List G} (h : checkG up l = true) : l.length ≤ 64 := (check_iff.1 h).1

set_option maxRecDepth 100000 in
set_option maxHeartbeats 2000000 in
theorem walkGrRows (A B : Option Addr) (n c m d : Nat) (up : List Nat) (l : List G) (y : UInt8) (w : World) (ht : Base4 w) (hu : ArgU w A n c up) (hl : ArgG w B m d l) :
    Calls Try.prog 6 #[.slice A n c, .slice B m d, .int .u8 (y.toNat : Int)] w fun e w' => e = .returned (.bool true) ∧ Below w.heap.size w w' := by
  have HT := Lib.hid ht
  have HU := Lib.hid hu
  have HG := Lib.hid hl
  clear ht hu hl
  by_cases hg : 12 < n
  · have e1 : decide (12 < (n : Int)) = true := by simp; omega
    go_enter Try.func6, Try.ntmps6
    go_wp2_with (go_at_call 8; refine (awake04_any _ HT.out).mono ?_; rintro e w0 ⟨rfl, h0⟩; have B0 := Lib.hid h0; clear h0)
    go_ret
    exact ⟨rfl, B0.out⟩
  have e1 : decide (12 < (n : Int)) = false := by simp; omega
  by_cases hg2 : 64 < m
  · have e2 : decide (64 < (m : Int)) = true := by simp; omega
    go_enter Try.func6, Try.ntmps6
    go_wp2_with (go_at_call 8; refine (awake04_any _ HT.out).mono ?_; rintro e w0 ⟨rfl, h0⟩; have B0 := Lib.hid h0; clear h0)
    go_ret
    exact ⟨rfl, B0.out⟩
  have e2 : decide (64 < (m : Int)) = false := by simp; omega
  have HC := Lib.hid (fun w1 (h1 : Below w.heap.size w w1) => r3Check_any up A n c w1 (HU.out.below h1) (by omega))
  by_cases hc : IsLat up
  · rw [checkB_yes hc] at HC
    have HK := Lib.hid (fun w1 (h1 : Below w.heap.size w w1) => gCheck_any up A B n c m d l w1 (HT.out.below h1) hc (HU.out.below h1) (HG.out.below h1) (by omega))
    by_cases hck : checkG up l = true
    · rw [hck] at HK
      obtain ⟨k, hk⟩ : ∃ k : Nat, y.toNat % (m + 1) = k := ⟨_, rfl⟩
      have hkm : k ≤ m := by have := Nat.mod_lt y.toNat (show 0 < m + 1 by omega); omega
      have hy := y.toNat_lt
      have hke : (y.toNat : Int) % ((m : Int) + 1) = (k : Int) := by rw [← hk]; simp
      have hkd : (k : Int) ≤ (d : Int) := by have := HG.out.room; omega
      have hk0 : (0 : Int) ≤ (k : Int) := by omega
      have HK1 := Lib.hid (fun w1 (h1 : Below w.heap.size w w1) => show Calls Try.prog 16 #[.slice A n c, .slice B k d] w1 (BoolEnd true w1) by
        have := gCheck_any up A B n c k d (l.take k) w1 (HT.out.below h1) hc (HU.out.below h1) ((HG.out.below h1).take hkm) (by omega)
        rwa [check_take hck k] at this)
      have HK2 := Lib.hid (fun (B' : Option Addr) (c' : Nat) w1 (h1 : Below w.heap.size w w1) (hd : ArgG w1 B' (m - k) c' (l.drop k)) => show Calls Try.prog 16 #[.slice A n c, .slice B' (m - k) c'] w1 (BoolEnd true w1) by
        have := gCheck_any up A B' n c (m - k) c' (l.drop k) w1 (HT.out.below h1) hc (HU.out.below h1) hd (by omega)
        rwa [check_drop hck k] at this)
      by_cases hm0 : m = 0
      · subst hm0
        obtain rfl : k = 0 := by omega
        have hl0 : l.drop 0 = [] := by have := HG.out.len; simp; exact List.eq_nil_of_length_eq_zero this.symm
        have HK3 := Lib.hid (fun (B' : Option Addr) w1 (h1 : Below w.heap.size w w1) => HK2.out B' d w1 h1 (by rw [hl0]; exact argG_any w1 B' d HG.out.most))
        clear hk hkm hke HK2
        go_enter Try.func6, Try.ntmps6
        go_wp2_with (first
          | (go_at_call 8; refine (awake04_any _ HT.out).mono ?_; rintro e w0 ⟨rfl, h0⟩; have B0 := Lib.hid h0; clear h0)
          | (go_at_call 9; refine (HC.out _ B0.out).mono ?_; rintro e w1 ⟨rfl, h1⟩; have B1 := Lib.hid (below_step B0.out h1); clear h1)
          | (go_at_call 16; refine (HK.out _ B1.out).mono ?_; rintro e w2 ⟨rfl, h1⟩; have B2 := Lib.hid (below_step B1.out h1); clear h1)
          | (go_at_call 16; refine (HK1.out _ B2.out).mono ?_; rintro e w3 ⟨rfl, h1⟩; have B3 := Lib.hid (below_step B2.out h1); clear h1)
          | (go_at_call 16; refine (HK3.out _ _ B3.out).mono ?_; rintro e w4 ⟨rfl, h1⟩; have B4 := Lib.hid (below_step B3.out h1); clear h1))
        go_loopw [9, 10] (fun v i wr => v = .slice none 0 0 ∧ i = .int .i64 (-1) ∧ Below w.heap.size w wr) (fun _ _ _ => 0)
        case atStart => exact ⟨rfl, rfl, B4.out⟩
        case round =>
          obtain ⟨rfl, rfl, hB⟩ := hrel
          have HB := Lib.hid hB
          clear hB
          obtain ⟨w5, hw5⟩ : ∃ w5 : World, w5 = wr := ⟨_, rfl⟩
          subst hw5
          go_wp2
          go_ret
          exact ⟨rfl, HB.out⟩
      · obtain ⟨b, off, rfl, -⟩ := HG.out.reads.gat (i := 0) (by have := HG.out.len; omega)
        have HLn := Lib.hid HG.out.len
        have hdm : m ≤ d := HG.out.room
        have HDM : Hid (d ≤ maxLen) := Lib.hid HG.out.most
        have HK3 : Hid (∀ w1, Below w.heap.size w w1 → Calls Try.prog 16 #[.slice A n c, .slice (if d = k then some ⟨b, off, none⟩ else some ⟨b, off + k * 3, none⟩) (m - k) (d - k)] w1 (BoolEnd true w1)) := Lib.hid (fun w1 h1 => by
          by_cases hdk : d = k
          · rw [if_pos hdk]
            have hmk : m = k := by omega
            have hl0 : l.drop k = [] := List.drop_eq_nil_of_le (by have := HLn.out; omega)
            refine HK2.out _ _ w1 h1 ?_
            rw [hl0, hmk, Nat.sub_self]
            exact argG_any w1 _ _ (by have := HDM.out; omega)
          · rw [if_neg hdk]
            exact HK2.out _ _ w1 h1 ((HG.out.below h1).dropAt hkm))
        have i1 : (k : Int) ≤ (m : Int) := by omega
        have i2 : (m : Int) ≤ (d : Int) := by omega
        clear hk HK2
        generalize hB' : (if d = k then (some ⟨b, off, none⟩ : Option Addr) else some ⟨b, off + k * 3, none⟩) = B' at HK3
        go_enter Try.func6, Try.ntmps6
        go_wp2_with (first
          | (go_at_call 8; refine (awake04_any _ HT.out).mono ?_; rintro e w0 ⟨rfl, h0⟩; have B0 := Lib.hid h0; clear h0)
          | (go_at_call 9; refine (HC.out _ B0.out).mono ?_; rintro e w1 ⟨rfl, h1⟩; have B1 := Lib.hid (below_step B0.out h1); clear h1)
          | (go_at_call 16; (with_reducible refine (HK.out _ B1.out).mono ?_); rintro e w2 ⟨rfl, h1⟩; have B2 := Lib.hid (below_step B1.out h1); clear h1)
          | (go_at_call 16; (with_reducible refine (HK1.out _ B2.out).mono ?_); rintro e w3 ⟨rfl, h1⟩; have B3 := Lib.hid (below_step B2.out h1); clear h1)
          | (go_at_call 16; (with_reducible refine (HK3.out _ B3.out).mono ?_); rintro e w4 ⟨rfl, h1⟩; have B4 := Lib.hid (below_step B3.out h1); clear h1))
        obtain ⟨j0, hj, jz0, jz1, jz2⟩ := info_parts Ginfo
        go_loopw [9, 10] (fun v i wr => ∃ j : Nat, j ≤ m ∧ i = .int .i64 ((j : Int) - 1) ∧ wr.ownsRow w.heap.size 29 3 v (m - j) (cellsG (l.drop j).reverse) ∧ Below w.heap.size w wr) (fun _ i _ => (intOf i + 1).toNat)
        case atStart => exact ⟨m, Nat.le_refl _, rfl, by rw [Nat.sub_self, List.drop_eq_nil_of_le (by have := HLn.out; omega)]; exact World.ownsRow_nil _ _ _ _, B4.out⟩
        case round =>
          obtain ⟨j, hjm, hi, hO, hB⟩ := hrel
          have HO := Lib.hid hO
          have HB := Lib.hid hB
          clear hO hB
          rcases j with _ | p
          · have hi0 : ((0 : Nat) : Int) - 1 = -1 := rfl
            rw [hi0] at hi
            subst hi
            clear hi0
            have hOv := HO.out
            rw [Nat.sub_zero, List.drop_zero] at hOv
            obtain ⟨Av, cv, hv, hbk⟩ := argG_own hOv (by rw [List.length_reverse]; exact HLn.out)
            subst hv
            have HBk := Lib.hid hbk
            clear hbk hOv HO
            obtain ⟨q, hq⟩ : ∃ q, m = q + 1 := ⟨m - 1, by omega⟩
            have hql : q < l.length := by have := HLn.out; omega
            have hqe : (m : Int) - 1 = (q : Int) := by omega
            have HQ := Lib.hid hq
            clear hq
            have HCell := Lib.hid (fun w1 (h1 : Below w.heap.size w w1) => show w1.cell? ⟨b, off + q * 3, none⟩ = some (.int .i64 l[q].a) ∧ w1.cell? ⟨b, off + q * 3 + 1, none⟩ = some (.int .i64 l[q].f) ∧ w1.cell? ⟨b, off + q * 3 + 2, none⟩ = some (.int .i64 l[q].t) by
              obtain ⟨b', off', hA', h⟩ := (HG.out.below h1).reads.gat hql
              injection hA' with hA'
              injection hA' with q5 q6
              subst q5 q6
              exact h)
            have HTw : Hid (checkG up (l ++ [l[q]]) = false) := Lib.hid (by
              have h0 : 0 < l.length := by omega
              have := check_twice (up := up) h0
              have e : l.length - 1 = q := by have := HLn.out; have := HQ.out; omega
              simp only [e] at this
              exact this)
            have HSq : Hid (cellsG (l ++ [l[q]]) = cellsG l ++ [.int .i64 l[q].a, .int .i64 l[q].f, .int .i64 l[q].t]) := Lib.hid (cellsG_snoc l l[q])
            have HKt := Lib.hid (fun (B2 : Option Addr) (c2 : Nat) w1 (h1 : Below w.heap.size w w1) (hd : ArgG w1 B2 (m + 1) c2 (l ++ [l[q]])) => show Calls Try.prog 16 #[.slice A n c, .slice B2 (m + 1) c2] w1 (BoolEnd false w1) by
              have := gCheck_any up A B2 n c (m + 1) c2 (l ++ [l[q]]) w1 (HT.out.below h1) hc (HU.out.below h1) hd (by omega)
              rwa [HTw.out] at this)
            have HLt : Hid (m + 1 = (l ++ [l[q]]).length) := Lib.hid (by rw [List.length_append, List.length_singleton, ← HLn.out])
            have HNews := Lib.hid (fun w1 (h1 : Below w.heap.size w w1) => cells_add (HG.out.below h1))
            have HOne := Lib.hid (one_cellG l)
            have HCL : Hid ((cellsG l).length = m * 3) := Lib.hid (by rw [cellsG_len, ← HLn.out]; omega)
            generalize l[q] = z at HCell HSq HKt HLt
            clear hql HTw
            have e3 : decide (0 < (m : Int)) = true := by simp; omega
            have q0 : (0 : Int) ≤ (q : Int) := by omega
            have q1 : (q : Int) < (m : Int) := by omega
            obtain ⟨w5, hw5⟩ : ∃ w5 : World, w5 = wr := ⟨_, rfl⟩
            subst hw5
            by_cases hm2 : m < 2
            · have e4 : decide ((m : Int) < 2) = true := by simp; omega
              go_wp2_with (first
                | (at_builtin; refine wpList_append_own _ rfl (.tmp 97) (.tmp 98) 23 rfl w5.heap.size 29 j0 (.agg #[.int .i64 0, .int .i64 0, .int .i64 0]) 3 24 Try.underlying23 hj jz0 jz1 jz2 rfl (by decide) _ 0 [] rfl (World.ownsRow_nil _ _ _ _) ⟨b, off, none⟩ m d (cellsG l) rfl HCL.out (HNews.out _ HB.out) HOne.out (by unfold maxLen; omega) (by omega) (Nat.le_refl _) ?_; intro v6 w6 h7 h8 h9; rw [Nat.zero_add, List.nil_append] at h7; have O6 := Lib.hid h7; have C6 := Lib.hid ((Below.refl w5.heap.size w5).grown h8 (Nat.le_refl _) (fun k e => by cases e)); have hS := HCell.out w6 (below_step HB.out C6.out); have c1 := hS.1; have c2 := hS.2.1; have c3 := hS.2.2; clear h7 h8 h9)
                | (at_builtin; refine wpList_append_own _ rfl (.tmp 100) (.tmp 107) 23 rfl w5.heap.size 29 j0 (.agg #[.int .i64 0, .int .i64 0, .int .i64 0]) 3 24 Try.underlying23 hj jz0 jz1 jz2 rfl (by decide) _ m _ rfl (O6.out.alloc _) ⟨w6.heap.size, 0, none⟩ 1 1 [.int .i64 z.a, .int .i64 z.f, .int .i64 z.t] rfl rfl ?_ ?_ ?_ ?_ ?_ ?_; (exact cells3_new _ _ _ _ _); (intro u hu; simp at hu; rcases hu with rfl | rfl | rfl <;> rfl); (unfold maxLen; omega); (omega); (have hq := C6.out.size; simp; omega); intro v7 w7 h7 h8 h9; rw [← HSq.out] at h7; have C7 := Lib.hid (below_own (C6.out.alloc C6.out.size (.cells #[.int .i64 z.a, .int .i64 z.f, .int .i64 z.t] 29)) h8 (O6.out.alloc (.cells #[.int .i64 z.a, .int .i64 z.f, .int .i64 z.t] 29)) (by have := C6.out.size; simp; omega)); obtain ⟨A7, c7, rfl, u7⟩ := argG_own h7 HLt.out; have U7 := Lib.hid u7; clear h7 h8 h9 u7)
                | (go_at_call 16; (with_reducible refine (HKt.out A7 c7 w7 (below_step HB.out C7.out) U7.out).mono ?_); rintro e w8 ⟨rfl, h1⟩; have C8 := Lib.hid (below_step C7.out h1); clear h1))
              go_ret
              exact ⟨rfl, below_step HB.out C8.out⟩
            · have e4 : decide ((m : Int) < 2) = false := by simp; omega
              have HKb := Lib.hid (fun w1 (h1 : Below w5.heap.size w5 w1) => show Calls Try.prog 16 #[.slice A n c, .slice Av m cv] w1 (BoolEnd false w1) by
                have := gCheck_any up A Av n c m cv l.reverse w1 (HT.out.below (below_step HB.out h1)) hc (HU.out.below (below_step HB.out h1)) (HBk.out.below h1) (by omega)
                rwa [check_back hck (by have := HLn.out; omega)] at this)
              go_wp2_with (first
                | (at_builtin; refine wpList_append_own _ rfl (.tmp 97) (.tmp 98) 23 rfl w5.heap.size 29 j0 (.agg #[.int .i64 0, .int .i64 0, .int .i64 0]) 3 24 Try.underlying23 hj jz0 jz1 jz2 rfl (by decide) _ 0 [] rfl (World.ownsRow_nil _ _ _ _) ⟨b, off, none⟩ m d (cellsG l) rfl HCL.out (HNews.out _ HB.out) HOne.out (by unfold maxLen; omega) (by omega) (Nat.le_refl _) ?_; intro v6 w6 h7 h8 h9; rw [Nat.zero_add, List.nil_append] at h7; have O6 := Lib.hid h7; have C6 := Lib.hid ((Below.refl w5.heap.size w5).grown h8 (Nat.le_refl _) (fun k e => by cases e)); have hS := HCell.out w6 (below_step HB.out C6.out); have c1 := hS.1; have c2 := hS.2.1; have c3 := hS.2.2; clear h7 h8 h9)
                | (at_builtin; refine wpList_append_own _ rfl (.tmp 100) (.tmp 107) 23 rfl w5.heap.size 29 j0 (.agg #[.int .i64 0, .int .i64 0, .int .i64 0]) 3 24 Try.underlying23 hj jz0 jz1 jz2 rfl (by decide) _ m _ rfl (O6.out.alloc _) ⟨w6.heap.size, 0, none⟩ 1 1 [.int .i64 z.a, .int .i64 z.f, .int .i64 z.t] rfl rfl ?_ ?_ ?_ ?_ ?_ ?_; (exact cells3_new _ _ _ _ _); (intro u hu; simp at hu; rcases hu with rfl | rfl | rfl <;> rfl); (unfold maxLen; omega); (omega); (have hq := C6.out.size; simp; omega); intro v7 w7 h7 h8 h9; rw [← HSq.out] at h7; have C7 := Lib.hid (below_own (C6.out.alloc C6.out.size (.cells #[.int .i64 z.a, .int .i64 z.f, .int .i64 z.t] 29)) h8 (O6.out.alloc (.cells #[.int .i64 z.a, .int .i64 z.f, .int .i64 z.t] 29)) (by have := C6.out.size; simp; omega)); obtain ⟨A7, c7, rfl, u7⟩ := argG_own h7 HLt.out; have U7 := Lib.hid u7; clear h7 h8 h9 u7)
                | (go_at_call 16; (with_reducible refine (HKt.out A7 c7 w7 (below_step HB.out C7.out) U7.out).mono ?_); rintro e w8 ⟨rfl, h1⟩; have C8 := Lib.hid (below_step C7.out h1); clear h1)
                | (go_at_call 16; (with_reducible refine (HKb.out w8 C8.out).mono ?_); rintro e w10 ⟨rfl, h1⟩; have C10 := Lib.hid (below_step C8.out h1); clear h1))
              go_ret
              exact ⟨rfl, below_step HB.out C10.out⟩
          · have hip : ((p + 1 : Nat) : Int) - 1 = (p : Int) := by omega
            rw [hip] at hi
            subst hi
            have hpl : p < l.length := by have := HLn.out; omega
            have HCell := Lib.hid (fun w1 (h1 : Below w.heap.size w w1) => show w1.cell? ⟨b, off + p * 3, none⟩ = some (.int .i64 l[p].a) ∧ w1.cell? ⟨b, off + p * 3 + 1, none⟩ = some (.int .i64 l[p].f) ∧ w1.cell? ⟨b, off + p * 3 + 2, none⟩ = some (.int .i64 l[p].t) by
              obtain ⟨b', off', hA', h⟩ := (HG.out.below h1).reads.gat hpl
              injection hA' with hA'
              injection hA' with q5 q6
              subst q5 q6
              exact h)
            have F2 := Lib.hid (fun w1 (h1 : Below w.heap.size w w1) => show Calls Try.prog 12 #[.slice A n c, .agg #[.int .i64 l[p].a, .int .i64 l[p].f, .int .i64 l[p].t]] w1 (BoolEnd true w1) by
              have := gFits_any up A n c l[p] w1 (HT.out.below h1) hc (HU.out.below h1)
              rwa [(check_iff.1 hck).2.1 p hpl] at this)
            have F5 := Lib.hid (fun w1 (h1 : Below w.heap.size w w1) => show Calls Try.prog 14 #[.slice (some ⟨b, off, none⟩) m d, .agg #[.int .i64 l[p].a, .int .i64 l[p].f, .int .i64 l[p].t]] w1 (BoolEnd true w1) by
              have := gMay_any _ m d l l[p] w1 (HT.out.below h1) (HG.out.below h1) (by omega)
              rwa [check_in l p hpl] at this)
            have F6 := Lib.hid (fun w1 (h1 : Below w.heap.size w w1) => show Calls Try.prog 14 #[.slice (some ⟨b, off, none⟩) p d, .agg #[.int .i64 l[p].a, .int .i64 l[p].f, .int .i64 l[p].t]] w1 (BoolEnd false w1) by
              have := gMay_any _ p d (l.take p) l[p] w1 (HT.out.below h1) ((HG.out.below h1).take (by omega)) (by omega)
              rwa [check_new hck p hpl] at this)
            have HSn : Hid (cellsG (l.drop p).reverse = cellsG (l.drop (p + 1)).reverse ++ [.int .i64 l[p].a, .int .i64 l[p].f, .int .i64 l[p].t]) := Lib.hid (by
              rw [List.drop_eq_getElem_cons hpl, List.reverse_cons, cellsG_snoc])
            generalize l[p] = z at HCell F2 F5 F6 HSn
            clear hpl hip
            have hS := HCell.out wr HB.out
            have c1 := hS.1
            have c2 := hS.2.1
            have c3 := hS.2.2
            have q0 : (0 : Int) ≤ (p : Int) := by omega
            have q1 : (p : Int) < (m : Int) := by omega
            have q2 : (p : Int) ≤ (d : Int) := by omega
            go_wp2_with (first
              | (at_builtin; refine wpList_append_own _ rfl _ _ 23 rfl w.heap.size 29 j0 (.agg #[.int .i64 0, .int .i64 0, .int .i64 0]) 3 24 Try.underlying23 hj jz0 jz1 jz2 rfl (by decide) _ (m - (p + 1)) _ rfl (HO.out.alloc _) ⟨wr.heap.size, 0, none⟩ 1 1 [.int .i64 z.a, .int .i64 z.f, .int .i64 z.t] rfl rfl ?_ ?_ ?_ ?_ ?_ ?_; (exact cells3_new _ _ _ _ _); (intro u hu; simp at hu; rcases hu with rfl | rfl | rfl <;> rfl); (unfold maxLen; omega); (omega); (have hq := HB.out.size; simp; omega); intro v5 w5 h7 h8 h9; have O5 := Lib.hid h7; have B5 := Lib.hid (below_own (HB.out.alloc HB.out.size (.cells #[.int .i64 z.a, .int .i64 z.f, .int .i64 z.t] 29)) h8 (HO.out.alloc (.cells #[.int .i64 z.a, .int .i64 z.f, .int .i64 z.t] 29)) (by have := HB.out.size; simp; omega)); clear h7 h8 h9))
            rename_i K hK
            have BD := B5.out.drew
            have hS0 : (fun w' : World => w'.cell? ⟨b, off + p * 3, none⟩ = some (.int .i64 z.a) ∧ w'.cell? ⟨b, off + p * 3 + 1, none⟩ = some (.int .i64 z.f) ∧ w'.cell? ⟨b, off + p * 3 + 2, none⟩ = some (.int .i64 z.t)) w5.drew := HCell.out w5.drew BD
            clear hS c1 c2 c3
            refine wp_held (fun w' : World => w'.cell? ⟨b, off + p * 3, none⟩ = some (.int .i64 z.a) ∧ w'.cell? ⟨b, off + p * 3 + 1, none⟩ = some (.int .i64 z.f) ∧ w'.cell? ⟨b, off + p * 3 + 2, none⟩ = some (.int .i64 z.t)) K (by kernel_rfl) ?_ (fun _ _ h => h)
            refine wpAnyH_take (i := 0) (v := .slice A n c) rfl (by kernel_rfl) (by kernel_rfl) (by kernel_rfl) (fun _ _ _ h => h) (Or.inl ⟨by rfl, ?_⟩) hS0 ?_
            · rintro w9 ⟨k1, k2, k3⟩
              go_simp
            simp only [Act.put, List.setIfInBounds_toArray, List.set_cons_zero, List.set_cons_succ, List.getElem_toArray, List.getElem_cons_zero]
            refine wpAnyH_take (i := 1) (v := .slice (some ⟨b, off, none⟩) m d) rfl (by kernel_rfl) (by kernel_rfl) (by kernel_rfl) (fun _ _ _ h => h) (Or.inl ⟨by rfl, ?_⟩) hS0 ?_
            · rintro w9 ⟨k1, k2, k3⟩
              go_simp
            simp only [Act.put, List.setIfInBounds_toArray, List.set_cons_zero, List.set_cons_succ, List.getElem_toArray, List.getElem_cons_zero, List.getElem_cons_succ]
            refine wpAnyH_take (i := 2) (v := .int .i64 p) rfl (by kernel_rfl) (by kernel_rfl) (by kernel_rfl) (fun _ _ _ h => h) (Or.inl ⟨by rfl, ?_⟩) hS0 ?_
            · rintro w9 ⟨k1, k2, k3⟩
              go_simp
            simp only [Act.put, List.setIfInBounds_toArray, List.set_cons_zero, List.set_cons_succ, List.getElem_toArray, List.getElem_cons_zero, List.getElem_cons_succ]
            refine wpAnyH_take (i := 3) (v := .pointer (some ⟨b, off + p * 3, none⟩)) rfl (by kernel_rfl) (by kernel_rfl) (by kernel_rfl) (fun _ _ _ h => h) (Or.inl ⟨by rfl, ?_⟩) hS0 ?_
            · rintro w9 ⟨k1, k2, k3⟩
              go_simp
            simp only [Act.put, List.setIfInBounds_toArray, List.set_cons_zero, List.set_cons_succ, List.getElem_toArray, List.getElem_cons_zero, List.getElem_cons_succ]
            refine wpAnyH_take (i := 4) (v := .agg #[.int .i64 z.a, .int .i64 z.f, .int .i64 z.t]) rfl (by kernel_rfl) (by kernel_rfl) (by kernel_rfl) (fun _ _ _ h => h) (Or.inl ⟨by rfl, ?_⟩) hS0 ?_
            · rintro w9 ⟨k1, k2, k3⟩
              go_simp
            simp only [Act.put, List.setIfInBounds_toArray, List.set_cons_zero, List.set_cons_succ, List.getElem_toArray, List.getElem_cons_zero, List.getElem_cons_succ]
            refine wpAnyH_ready (rs := [5]) (by kernel_rfl) (by simp) ?_
            refine AllReadyH.cons rfl (fun K5 hK5 => ?_) AllReadyH.nil
            go_simp
            go_at_call 12
            refine (F2.out _ BD).mono ?_
            rintro e w6 ⟨rfl, hbw6⟩
            have hS6 : (fun w' : World => w'.cell? ⟨b, off + p * 3, none⟩ = some (.int .i64 z.a) ∧ w'.cell? ⟨b, off + p * 3 + 1, none⟩ = some (.int .i64 z.f) ∧ w'.cell? ⟨b, off + p * 3 + 2, none⟩ = some (.int .i64 z.t)) w6 := ⟨cell_below hS0.1 hbw6, cell_below hS0.2.1 hbw6, cell_below hS0.2.2 hbw6⟩
            have Dw6 := below_step BD hbw6
            refine hK5.out _ _ hS6 (fun _ => ?_)
            clear hK5 K5
            refine wpAnyH_take (i := 6) (v := .bool false) rfl (by kernel_rfl) (by kernel_rfl) (by kernel_rfl) (fun _ _ _ h => h) (Or.inl ⟨by rfl, ?_⟩) hS6 ?_
            · rintro w9 ⟨k1, k2, k3⟩
              go_simp
            simp only [Act.put, List.setIfInBounds_toArray, List.set_cons_zero, List.set_cons_succ, List.getElem_toArray, List.getElem_cons_zero, List.getElem_cons_succ]
            refine wpAnyH_take (i := 7) (v := .bool false) rfl (by kernel_rfl) (by kernel_rfl) (by kernel_rfl) (fun _ _ _ h => h) (Or.inl ⟨by rfl, ?_⟩) hS6 ?_
            · rintro w9 ⟨k1, k2, k3⟩
              go_simp
            simp only [Act.put, List.setIfInBounds_toArray, List.set_cons_zero, List.set_cons_succ, List.getElem_toArray, List.getElem_cons_zero, List.getElem_cons_succ]
            refine wpAnyH_take (i := 8) (v := .slice (some ⟨b, off, none⟩) m d) rfl (by kernel_rfl) (by kernel_rfl) (by kernel_rfl) (fun _ _ _ h => h) (Or.inl ⟨by rfl, ?_⟩) hS6 ?_
            · rintro w9 ⟨k1, k2, k3⟩
              go_simp
            simp only [Act.put, List.setIfInBounds_toArray, List.set_cons_zero, List.set_cons_succ, List.getElem_toArray, List.getElem_cons_zero, List.getElem_cons_succ]
            refine wpAnyH_take (i := 9) (v := .slice (some ⟨b, off, none⟩) m d) rfl (by kernel_rfl) (by kernel_rfl) (by kernel_rfl) (fun _ _ _ h => h) (Or.inl ⟨by rfl, ?_⟩) hS6 ?_
            · rintro w9 ⟨k1, k2, k3⟩
              go_simp
            simp only [Act.put, List.setIfInBounds_toArray, List.set_cons_zero, List.set_cons_succ, List.getElem_toArray, List.getElem_cons_zero, List.getElem_cons_succ]
            refine wpAnyH_take (i := 10) (v := .int .i64 p) rfl (by kernel_rfl) (by kernel_rfl) (by kernel_rfl) (fun _ _ _ h => h) (Or.inl ⟨by rfl, ?_⟩) hS6 ?_
            · rintro w9 ⟨k1, k2, k3⟩
              go_simp
            simp only [Act.put, List.setIfInBounds_toArray, List.set_cons_zero, List.set_cons_succ, List.getElem_toArray, List.getElem_cons_zero, List.getElem_cons_succ]
            refine wpAnyH_take (i := 11) (v := .pointer (some ⟨b, off + p * 3, none⟩)) rfl (by kernel_rfl) (by kernel_rfl) (by kernel_rfl) (fun _ _ _ h => h) (Or.inl ⟨by rfl, ?_⟩) hS6 ?_
            · rintro w9 ⟨k1, k2, k3⟩
              go_simp
            simp only [Act.put, List.setIfInBounds_toArray, List.set_cons_zero, List.set_cons_succ, List.getElem_toArray, List.getElem_cons_zero, List.getElem_cons_succ]
            refine wpAnyH_take (i := 12) (v := .agg #[.int .i64 z.a, .int .i64 z.f, .int .i64 z.t]) rfl (by kernel_rfl) (by kernel_rfl) (by kernel_rfl) (fun _ _ _ h => h) (Or.inl ⟨by rfl, ?_⟩) hS6 ?_
            · rintro w9 ⟨k1, k2, k3⟩
              go_simp
            simp only [Act.put, List.setIfInBounds_toArray, List.set_cons_zero, List.set_cons_succ, List.getElem_toArray, List.getElem_cons_zero, List.getElem_cons_succ]
            refine wpAnyH_ready (rs := [13]) (by kernel_rfl) (by simp) ?_
            refine AllReadyH.cons rfl (fun K5 hK5 => ?_) AllReadyH.nil
            go_simp
            go_at_call 14
            refine (F5.out _ Dw6).mono ?_
            rintro e w7 ⟨rfl, hbw7⟩
            have hS7 : (fun w' : World => w'.cell? ⟨b, off + p * 3, none⟩ = some (.int .i64 z.a) ∧ w'.cell? ⟨b, off + p * 3 + 1, none⟩ = some (.int .i64 z.f) ∧ w'.cell? ⟨b, off + p * 3 + 2, none⟩ = some (.int .i64 z.t)) w7 := ⟨cell_below hS6.1 hbw7, cell_below hS6.2.1 hbw7, cell_below hS6.2.2 hbw7⟩
            have Dw7 := below_step Dw6 hbw7
            refine hK5.out _ _ hS7 (fun _ => ?_)
            clear hK5 K5
            refine wpAnyH_take (i := 14) (v := .bool false) rfl (by kernel_rfl) (by kernel_rfl) (by kernel_rfl) (fun _ _ _ h => h) (Or.inl ⟨by rfl, ?_⟩) hS7 ?_
            · rintro w9 ⟨k1, k2, k3⟩
              go_simp
            simp only [Act.put, List.setIfInBounds_toArray, List.set_cons_zero, List.set_cons_succ, List.getElem_toArray, List.getElem_cons_zero, List.getElem_cons_succ]
            refine wpAnyH_take (i := 15) (v := .bool false) rfl (by kernel_rfl) (by kernel_rfl) (by kernel_rfl) (fun _ _ _ h => h) (Or.inl ⟨by rfl, ?_⟩) hS7 ?_
            · rintro w9 ⟨k1, k2, k3⟩
              go_simp
            simp only [Act.put, List.setIfInBounds_toArray, List.set_cons_zero, List.set_cons_succ, List.getElem_toArray, List.getElem_cons_zero, List.getElem_cons_succ]
            refine wpAnyH_take (i := 16) (v := .bool false) rfl (by kernel_rfl) (by kernel_rfl) (by kernel_rfl) (fun _ _ _ h => h) (Or.inl ⟨by rfl, ?_⟩) hS7 ?_
            · rintro w9 ⟨k1, k2, k3⟩
              go_simp
            simp only [Act.put, List.setIfInBounds_toArray, List.set_cons_zero, List.set_cons_succ, List.getElem_toArray, List.getElem_cons_zero, List.getElem_cons_succ]
            refine wpAnyH_take (i := 17) (v := .slice (some ⟨b, off, none⟩) m d) rfl (by kernel_rfl) (by kernel_rfl) (by kernel_rfl) (fun _ _ _ h => h) (Or.inl ⟨by rfl, ?_⟩) hS7 ?_
            · rintro w9 ⟨k1, k2, k3⟩
              go_simp
            simp only [Act.put, List.setIfInBounds_toArray, List.set_cons_zero, List.set_cons_succ, List.getElem_toArray, List.getElem_cons_zero, List.getElem_cons_succ]
            refine wpAnyH_take (i := 18) (v := .int .i64 p) rfl (by kernel_rfl) (by kernel_rfl) (by kernel_rfl) (fun _ _ _ h => h) (Or.inl ⟨by rfl, ?_⟩) hS7 ?_
            · rintro w9 ⟨k1, k2, k3⟩
              go_simp
            simp only [Act.put, List.setIfInBounds_toArray, List.set_cons_zero, List.set_cons_succ, List.getElem_toArray, List.getElem_cons_zero, List.getElem_cons_succ]
            refine wpAnyH_take (i := 19) (v := .slice (some ⟨b, off, none⟩) p d) rfl (by kernel_rfl) (by kernel_rfl) (by kernel_rfl) (fun _ _ _ h => h) (Or.inl ⟨by rfl, ?_⟩) hS7 ?_
            · rintro w9 ⟨k1, k2, k3⟩
              go_simp
            simp only [Act.put, List.setIfInBounds_toArray, List.set_cons_zero, List.set_cons_succ, List.getElem_toArray, List.getElem_cons_zero, List.getElem_cons_succ]
            refine wpAnyH_take (i := 20) (v := .slice (some ⟨b, off, none⟩) m d) rfl (by kernel_rfl) (by kernel_rfl) (by kernel_rfl) (fun _ _ _ h => h) (Or.inl ⟨by rfl, ?_⟩) hS7 ?_
            · rintro w9 ⟨k1, k2, k3⟩
              go_simp
            simp only [Act.put, List.setIfInBounds_toArray, List.set_cons_zero, List.set_cons_succ, List.getElem_toArray, List.getElem_cons_zero, List.getElem_cons_succ]
            refine wpAnyH_take (i := 21) (v := .int .i64 p) rfl (by kernel_rfl) (by kernel_rfl) (by kernel_rfl) (fun _ _ _ h => h) (Or.inl ⟨by rfl, ?_⟩) hS7 ?_
            · rintro w9 ⟨k1, k2, k3⟩
              go_simp
            simp only [Act.put, List.setIfInBounds_toArray, List.set_cons_zero, List.set_cons_succ, List.getElem_toArray, List.getElem_cons_zero, List.getElem_cons_succ]
            refine wpAnyH_take (i := 22) (v := .pointer (some ⟨b, off + p * 3, none⟩)) rfl (by kernel_rfl) (by kernel_rfl) (by kernel_rfl) (fun _ _ _ h => h) (Or.inl ⟨by rfl, ?_⟩) hS7 ?_
            · rintro w9 ⟨k1, k2, k3⟩
              go_simp
            simp only [Act.put, List.setIfInBounds_toArray, List.set_cons_zero, List.set_cons_succ, List.getElem_toArray, List.getElem_cons_zero, List.getElem_cons_succ]
            refine wpAnyH_take (i := 23) (v := .agg #[.int .i64 z.a, .int .i64 z.f, .int .i64 z.t]) rfl (by kernel_rfl) (by kernel_rfl) (by kernel_rfl) (fun _ _ _ h => h) (Or.inl ⟨by rfl, ?_⟩) hS7 ?_
            · rintro w9 ⟨k1, k2, k3⟩
              go_simp
            simp only [Act.put, List.setIfInBounds_toArray, List.set_cons_zero, List.set_cons_succ, List.getElem_toArray, List.getElem_cons_zero, List.getElem_cons_succ]
            refine wpAnyH_ready (rs := [24]) (by kernel_rfl) (by simp) ?_
            refine AllReadyH.cons rfl (fun K5 hK5 => ?_) AllReadyH.nil
            go_simp
            go_at_call 14
            refine (F6.out _ Dw7).mono ?_
            rintro e w8 ⟨rfl, hbw8⟩
            have hS8 : (fun w' : World => w'.cell? ⟨b, off + p * 3, none⟩ = some (.int .i64 z.a) ∧ w'.cell? ⟨b, off + p * 3 + 1, none⟩ = some (.int .i64 z.f) ∧ w'.cell? ⟨b, off + p * 3 + 2, none⟩ = some (.int .i64 z.t)) w8 := ⟨cell_below hS7.1 hbw8, cell_below hS7.2.1 hbw8, cell_below hS7.2.2 hbw8⟩
            have Dw8 := below_step Dw7 hbw8
            refine hK5.out _ _ hS8 (fun _ => ?_)
            clear hK5 K5
            refine wpAnyH_take (i := 25) (v := .bool false) rfl (by kernel_rfl) (by kernel_rfl) (by kernel_rfl) (fun _ _ _ h => h) (Or.inl ⟨by rfl, ?_⟩) hS8 ?_
            · rintro w9 ⟨k1, k2, k3⟩
              go_simp
            simp only [Act.put, List.setIfInBounds_toArray, List.set_cons_zero, List.set_cons_succ, List.getElem_toArray, List.getElem_cons_zero, List.getElem_cons_succ]
            refine wpAnyH_done (by kernel_rfl) ?_ _
            refine hK _ _ ?_
            clear hK K
            have O8 := own_below (own_below (own_below (own_below O5.out (Below.refl _ _).drew) hbw6) hbw7) hbw8
            rw [← HSn.out, show m - (p + 1) + 1 = m - p by omega] at O8
            have HO8 := Lib.hid O8
            have HB8 := Lib.hid Dw8
            clear O8 Dw8 Dw7 Dw6 hS8 hS7 hS6 hS0 hbw8 hbw7 hbw6 BD
            go_wp2
            go_roundw
            case rel => exact ⟨p, by omega, by first | rfl | go_num, HO8.out, HB8.out⟩
            case measure => simp [intOf]
    · have hck2 : checkG up l = false := by simpa using hck
      rw [hck2] at HK
      clear hck hck2
      go_enter Try.func6, Try.ntmps6
      go_wp2_with (first
        | (go_at_call 8; refine (awake04_any _ HT.out).mono ?_; rintro e w0 ⟨rfl, h0⟩; have B0 := Lib.hid h0; clear h0)
        | (go_at_call 9; refine (HC.out _ B0.out).mono ?_; rintro e w1 ⟨rfl, h1⟩; have B1 := Lib.hid (below_step B0.out h1); clear h1)
        | (go_at_call 16; refine (HK.out _ B1.out).mono ?_; rintro e w2 ⟨rfl, h1⟩; have B2 := Lib.hid (below_step B1.out h1); clear h1))
      go_ret
      exact ⟨rfl, B2.out⟩
  · rw [checkB_no hc] at HC
    go_enter Try.func6, Try.ntmps6
    go_wp2_with (first
      | (go_at_call 8; refine (awake04_any _ HT.out).mono ?_; rintro e w0 ⟨rfl, h0⟩; have B0 := Lib.hid h0; clear h0)
      | (go_at_call 9; refine (HC.out _ B0.out).mono ?_; rintro e w1 ⟨rfl, h1⟩; have B1 := Lib.hid (below_step B0.out h1); clear h1))
    go_ret
    exact ⟨rfl, B1.out⟩

end Go.Proofs.Ytbgpjboefnacgaa
