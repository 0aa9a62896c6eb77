import Derived.Test.YtlfmmmgdilencaaJ02
import Derived.Test.YtlfmmmgdilencaaJ04
/- Of a claim's texts, joined: Pir. No statement but in the last. -/
namespace Go.Proofs.Ytlfmmmgdilencaa
open Go.RowKit
set_option linter.unusedVariables false

theorem wpList_append_u64s {P : Program} {w : World} {ops : Array Oper} {rest : List Oper} {o : Oper} {a : Act} {Q : Exit → Act → World → Prop} (hgd : o.guard = none) (s x : Operand) (t : TypeId)
    (ho : o.op = .call { callee := .builtin .append, args := #[s, x], argTypes := #[t, t] }) (base : Nat) (e : TypeId) (i : TypeInfo) (ht : P.underlying t = some (.slice e)) (hi : P.info? e = some i) (hz : i.zero = some (.int .u64 0))
    (hsize : i.size = 1) (hby : i.bytes = 8) (v : Value) (n : Nat) (xs : List Value) (hs : a.eval s = v) (hown : w.ownsRow base e 1 v n xs) (A : Option Addr) (m c : Nat) (l : List Nat) (hx : a.eval x = .slice A m c) (hm : m = l.length)
    (hA : A = none → c = 0) (hr : Reads w A (l.map u64V)) (hmax : n + m ≤ 1000000) (hbase : base ≤ w.heap.size)
    (h : ∀ v' w', w'.ownsRow base e 1 v' (n + m) (xs ++ l.map u64V) → w.grownBy w' v.ownBlock → wpList P ops Q rest (a.put o.dst v') w') : wpList P ops Q (o :: rest) a w := by
  subst hm
  rcases A with _ | ad
  · have h0 : l = [] := by
      rcases l with _ | ⟨d, l⟩
      · rfl
      · obtain ⟨g, off, ha, _⟩ := hr (by simp)
        cases ha
    subst h0
    have hc := hA rfl
    subst hc
    exact wpList_append_own_none hgd s x t ho base e i 1 ht hi v n xs hs hown hx (h v w (by simpa using hown) (World.grownBy.refl w _))
  · refine wpList_append_own w hgd s x t ho base e i (.int .u64 0) 1 8 ht hi hz hsize hby rfl (by decide) v n xs hs hown ad l.length c (l.map u64V) hx (by simp) (fun j u hj => ?_) (one_u64V l) (by unfold maxLen; omega) (by omega) hbase (fun v' w' h1 h2 _ => h v' w' h1 h2)
    obtain ⟨g, off, hA', hc⟩ := hr (by
      have := (List.getElem?_eq_some_iff.1 hj).1
      omega)
    injection hA' with hA'
    subst hA'
    rw [add_plain]
    exact hc j u hj
structure RowU (w : World) (A : Option Addr) (n c : Nat) (l : List Nat) : Prop where
  arg : ArgU w A n c l
  nil : A = none → c = 0
theorem RowU.below {w w' : World} {A : Option Addr} {n c : Nat} {l : List Nat} (h : RowU w A n c l) (hb : Below w.heap.size w w') : RowU w' A n c l := ⟨h.arg.below hb, h.nil⟩
theorem RowU.none_ (w : World) : RowU w none 0 0 [] := ⟨⟨rfl, Reads.empty, fun h => absurd h (Nat.lt_irrefl 0), Nat.le_refl _, Nat.zero_le _, fun x hx => by cases hx⟩, fun _ => rfl⟩
theorem RowU.own {w : World} {B n : Nat} {v : Value} {l : List Nat} (h : w.ownsRow B 27 1 v n (l.map u64V)) (hb : ∀ x ∈ l, x < 2 ^ 64) : ∃ A c, v = .slice A n c ∧ RowU w A n c l := by
  obtain ⟨A, c, rfl, ha, _⟩ := argU_own h (by have := h.1; simpa using this.symm) hb
  refine ⟨A, c, rfl, ha, fun hn => ?_⟩
  subst hn
  rcases h.2 with ⟨e, _⟩ | ⟨g, cap, cur, e, _⟩
  · injection e
  · injection e with e1 _ _
    cases e1
theorem Reads.dropU {w : World} {A : Option Addr} {n c : Nat} {l : List Nat} (h : Reads w A (l.map u64V)) (hn : n = l.length) (hc : n ≤ c) {k : Nat} (hk : k ≤ n) : Reads w (if c = k then A else A.map (·.add k)) ((l.drop k).map u64V) := fun hx => by
  have hl : k < l.length := by
    rw [List.length_map, List.length_drop] at hx
    omega
  rw [if_neg (by omega)]
  obtain ⟨g, off, hA, hr⟩ := h (by rw [List.length_map]; omega)
  subst hA
  refine ⟨g, off + k, by simp [add_plain], fun j u hj => ?_⟩
  have := hr (k + j) u (by rw [← hj, List.map_drop, List.getElem?_drop])
  rw [← Nat.add_assoc] at this
  exact this
theorem lies_one12 (w : World) (u : Value) (t : TypeId) : ∀ j y, ([u] : List Value)[j]? = some y → (w.alloc (.cells #[u] t)).cell? ((⟨w.heap.size, 0, none⟩ : Addr).add j) = some y := fun j y hj => by
  rw [add_plain, (Has.made w t #[u]).cell, Nat.zero_add]
  simpa using hj
theorem count_more {l : List Nat} {k v : Nat} (hk : k < l.length) : (l.take (k + 1)).count v = (l.take k).count v + if l[k] = v then 1 else 0 := by
  rw [List.take_succ_eq_append_getElem hk, List.count_append, List.count_singleton]
  simp
set_option maxRecDepth 100000 in
theorem r12Held_any (A : Option Addr) (n c : Nat) (l : List Nat) (v : Nat) (w : World) (h : ArgU w A n c l) (hn : n ≤ 1000000) :
    Calls Try.prog 15 #[.slice A n c, .int .u64 (v : Int)] w fun e w' => e = .returned (.int .i64 (l.count v : Int)) ∧ w = w' := by
  have HA := Lib.hid h
  have HN := Lib.hid h.len
  clear h
  go_enter Try.func15, Try.ntmps15
  go_wp2
  go_loop [5, 6] (fun s i => ∃ k m : Nat, k ≤ n ∧ i = .int .i64 (k : Int) ∧ s = .int .i64 (m : Int) ∧ m ≤ k ∧ (l.take k).count v = m) (fun _ i => n - (intOf i).toNat)
  case atStart => exact ⟨0, 0, Nat.zero_le _, rfl, rfl, Nat.le_refl _, by simp⟩
  case round =>
    obtain ⟨k, m, hk, rfl, rfl, hmk, hm⟩ := hrel
    have HM := Lib.hid hm
    clear hm
    by_cases hlt : k < n
    · have hkl : k < l.length := by have := HN.out; omega
      obtain ⟨g, off, rfl, ck⟩ := HA.out.reads.at_ hkl
      have HC := Lib.hid (count_more (v := v) hkl)
      have hbig := HA.out.big _ (List.getElem_mem hkl)
      generalize l[k] = x at ck HC hbig
      clear hkl
      by_cases hq : x = v
      · subst hq
        have hb : ((x : Int) == (x : Int)) = true := by simp
        go_wp2
        go_round
        case rel => exact ⟨k + 1, m + 1, by omega, by go_num, by go_num, by omega, by have h1 := HC.out; have h2 := HM.out; rw [if_pos rfl] at h1; omega⟩
        case measure => simp [intOf]; omega
      · have hb : ((x : Int) == (v : Int)) = false := by simp; omega
        have HQ := Lib.hid hq
        clear hq
        go_wp2
        go_round
        case rel => exact ⟨k + 1, m, by omega, by go_num, rfl, by omega, by have h1 := HC.out; have h2 := HM.out; rw [if_neg HQ.out] at h1; omega⟩
        case measure => simp [intOf]; omega
    · obtain rfl : k = n := by omega
      have HE : Hid (l.count v = m) := Lib.hid (by
        have := HM.out
        rwa [List.take_of_length_le (by rw [← HN.out]; exact Nat.le_refl _)] at this)
      go_wp2
      go_ret
      exact ⟨by rw [HE.out]; rfl, rfl⟩
theorem r12Oldest_any (A : Option Addr) (n c : Nat) (l : List Nat) (w : World) (h : ArgU w A n c l) (hn : n ≤ 1000000) :
    Calls Try.prog 13 #[.slice A n c] w fun e w' => e = .returned (.tuple #[.int .u64 ((oldN l).1 : Int), .bool (oldN l).2]) ∧ w = w' := by
  rcases l with _ | ⟨x, t⟩
  · obtain rfl : n = 0 := h.len
    clear h
    go_enter Try.func13, Try.ntmps13
    go_wp2
    go_ret2
    exact ⟨rfl, rfl⟩
  · have hne : ((n : Int) == 0) = false := by have := h.len; simp at this; simp; omega
    have h0 : (0 : Int) < (n : Int) := by have := h.len; simp at this; omega
    obtain ⟨g, off, rfl, ck⟩ := h.reads.at_ (i := 0) (by simp)
    simp only [List.getElem_cons_zero, Nat.add_zero] at ck
    clear h
    go_enter Try.func13, Try.ntmps13
    go_wp2
    go_ret2
    exact ⟨rfl, rfl⟩
def RowEnd (l : List Nat) (w : World) (e : Ending) (w' : World) : Prop := ∃ A n c, e = .returned (.slice A n c) ∧ RowU w' A n c l ∧ Below w.heap.size w w'
set_option maxRecDepth 100000 in
set_option maxHeartbeats 1000000 in
theorem r12Pin_any (A : Option Addr) (n c : Nat) (l : List Nat) (v : Nat) (w : World) (h : RowU w A n c l) (hn : n ≤ 100000) (hv : v < 2 ^ 64) :
    Calls Try.prog 9 #[.slice A n c, .int .u64 (v : Int)] w (RowEnd (pinN l v) w) := by
  have HA := Lib.hid h
  have HN := Lib.hid h.arg.len
  have hc := h.arg.room
  have hcm := h.arg.most
  have hcI : c ≤ 9223372036854775807 := by unfold maxLen at hcm; omega
  obtain ⟨i0, hi, hz0, hz1, hz2⟩ := info_parts u64info
  have HBG : Hid (∀ x ∈ pinN l v, x < 2 ^ 64) := Lib.hid (fun x hx => by
    rcases pinN_mem.1 hx with rfl | hx
    · exact hv
    · exact h.arg.big x hx)
  clear h
  go_enter Try.func9, Try.ntmps9
  go_wp2
  go_loop [6] (fun i => ∃ k : Nat, k ≤ n ∧ i = .int .i64 (k : Int) ∧ ∀ j, j < k → l.getD j 0 ≤ v) (fun i => n - (intOf i).toNat)
  case atStart => exact ⟨0, Nat.zero_le _, rfl, fun j hj => absurd hj (by omega)⟩
  case round =>
    obtain ⟨k, hk, rfl, hj⟩ := hrel
    have HJ := Lib.hid hj
    clear hj
    by_cases hlt : k < n
    · have hkl : k < l.length := by have := HN.out; omega
      obtain ⟨g, off, rfl, ck⟩ := HA.out.arg.reads.at_ hkl
      have HD : Hid (l.getD k 0 = l[k]) := Lib.hid (by rw [List.getD_eq_getElem?_getD, List.getElem?_eq_getElem hkl]; rfl)
      generalize l[k] = x at ck HD
      have hltI : (k : Int) < (n : Int) := by omega
      clear hkl
      by_cases hq : x ≤ v
      · have hqI : (x : Int) ≤ (v : Int) := by omega
        have HF : Hid (∀ j, j < k + 1 → l.getD j 0 ≤ v) := Lib.hid (fun j hj => by
          by_cases e : j = k
          · subst e
            rw [HD.out]
            exact hq
          · exact HJ.out j (by omega))
        clear hq
        go_wp2
        go_round
        case rel => exact ⟨k + 1, by omega, by go_num, HF.out⟩
        case measure => simp [intOf]; omega
      · have hqI : ¬ (x : Int) ≤ (v : Int) := by omega
        have HP : Hid (pinN l v = l.take k ++ v :: l.drop k) := Lib.hid (pinN_at l k v (by rw [← HN.out]; exact hk) HJ.out (fun _ => by rw [HD.out]; omega))
        clear hq
        have hkc : k ≤ c := by omega
        have hkcI : (k : Int) ≤ (c : Int) := by omega
        have hk0I : (0 : Int) ≤ (k : Int) := by omega
        have RD0 := Lib.hid (fun w1 (b1 : Below w.heap.size w w1) => (HA.out.arg.below b1).reads.dropU HN.out hc (k := k) (by omega))
        by_cases hck : c = k
        · exact absurd hck (by omega)
        · have RDK := Lib.hid (fun w1 (b1 : Below w.heap.size w w1) => (by have := RD0.out w1 b1; rwa [if_neg hck] at this : Reads w1 _ ((l.drop (k)).map u64V)))
          clear RD0
          go_wp2_with (first
            | (at_builtin; go_loud (refine wpList_append_u64s rfl _ _ 26 rfl w.heap.size 27 i0 Try.underlying26 hi hz0 hz1 hz2 _ 0 [] rfl (World.ownsRow_nil _ _ _ _) _ k _ (l.take k) rfl (by have := HN.out; rw [List.length_take]; omega) HA.out.nil (by rw [List.map_take]; exact HA.out.arg.reads.take k) (by omega) (Nat.le_refl _) ?_; intro v3 w3 h7 h8; rw [Nat.zero_add, List.nil_append] at h7; have O3 := Lib.hid h7; have B3 := Lib.hid (below_own (Below.refl _ w) h8 (World.ownsRow_nil w w.heap.size 27 1) (Nat.le_refl _)); clear h7 h8))
            | (at_builtin; go_loud (refine wpList_append_own _ rfl _ _ 26 rfl w.heap.size 27 i0 (.int .u64 0) 1 8 Try.underlying26 hi hz0 hz1 hz2 rfl (by decide) _ k _ rfl (O3.out.alloc _) ⟨w3.heap.size, 0, none⟩ 1 1 [.int .u64 (v : Int)] rfl rfl (lies_one12 _ _ _) (by simp [Value.oneCell']) (by unfold maxLen; omega) (by omega) (Nat.le_trans B3.out.size (by simp)) ?_; intro v4 w4 h7 h8 hnil; clear hnil; have O4 := Lib.hid h7; have B4 := Lib.hid (below_own (below_alloc' B3.out (.cells #[.int .u64 (v : Int)] 27)) h8 (O3.out.alloc _) (Nat.le_trans B3.out.size (by simp))); clear h7 h8))
            | (at_builtin; go_loud (refine wpList_append_u64s rfl _ _ 26 rfl w.heap.size 27 i0 Try.underlying26 hi hz0 hz1 hz2 _ (k + 1) _ rfl O4.out _ _ _ (l.drop k) rfl (by have := HN.out; rw [List.length_drop]; omega) (fun h => by first | rfl | (cases h; done) | (have h2 := HA.out.nil (by simpa using h); omega)) (by have h2 := RDK.out w4 B4.out; first | exact h2 | simpa [add_plain] using h2) (by omega) B4.out.size ?_; intro v5 w5 h7 h8; have O5 := Lib.hid h7; have B5 := Lib.hid (below_own B4.out h8 O4.out B4.out.size); clear h7 h8)))
          go_ret
          have ho := O5.out
          have e : (l.take k).map u64V ++ [.int .u64 (v : Int)] ++ (l.drop k).map u64V = (pinN l v).map u64V := by rw [HP.out]; simp [u64V]
          rw [e] at ho
          obtain ⟨A9, c9, rfl, hR⟩ := RowU.own ho HBG.out
          exact ⟨A9, _, c9, rfl, hR, B5.out⟩
    · obtain rfl : k = n := by omega
      have hltI : ¬ (k : Int) < (k : Int) := by omega
      have HP : Hid (pinN l v = l.take k ++ v :: l.drop k) := Lib.hid (pinN_at l k v (by rw [← HN.out]; exact hk) HJ.out (fun hq => absurd hq (by rw [← HN.out]; omega)))
      have hkc : k ≤ c := by omega
      have hkcI : (k : Int) ≤ (c : Int) := by omega
      have hk0I : (0 : Int) ≤ (k : Int) := by omega
      have RD0 := Lib.hid (fun w1 (b1 : Below w.heap.size w w1) => (HA.out.arg.below b1).reads.dropU HN.out hc (k := k) (by omega))
      by_cases hck : c = k
      · have RDK := Lib.hid (fun w1 (b1 : Below w.heap.size w w1) => (by have := RD0.out w1 b1; rwa [if_pos hck] at this : Reads w1 _ ((l.drop (k)).map u64V)))
        clear RD0
        have hck2 := hck.symm
        subst hck2
        go_wp2_with (first
          | (at_builtin; go_loud (refine wpList_append_u64s rfl _ _ 26 rfl w.heap.size 27 i0 Try.underlying26 hi hz0 hz1 hz2 _ 0 [] rfl (World.ownsRow_nil _ _ _ _) _ k _ (l.take k) rfl (by have := HN.out; rw [List.length_take]; omega) HA.out.nil (by rw [List.map_take]; exact HA.out.arg.reads.take k) (by omega) (Nat.le_refl _) ?_; intro v3 w3 h7 h8; rw [Nat.zero_add, List.nil_append] at h7; have O3 := Lib.hid h7; have B3 := Lib.hid (below_own (Below.refl _ w) h8 (World.ownsRow_nil w w.heap.size 27 1) (Nat.le_refl _)); clear h7 h8))
          | (at_builtin; go_loud (refine wpList_append_own _ rfl _ _ 26 rfl w.heap.size 27 i0 (.int .u64 0) 1 8 Try.underlying26 hi hz0 hz1 hz2 rfl (by decide) _ k _ rfl (O3.out.alloc _) ⟨w3.heap.size, 0, none⟩ 1 1 [.int .u64 (v : Int)] rfl rfl (lies_one12 _ _ _) (by simp [Value.oneCell']) (by unfold maxLen; omega) (by omega) (Nat.le_trans B3.out.size (by simp)) ?_; intro v4 w4 h7 h8 hnil; clear hnil; have O4 := Lib.hid h7; have B4 := Lib.hid (below_own (below_alloc' B3.out (.cells #[.int .u64 (v : Int)] 27)) h8 (O3.out.alloc _) (Nat.le_trans B3.out.size (by simp))); clear h7 h8))
          | (at_builtin; go_loud (refine wpList_append_u64s rfl _ _ 26 rfl w.heap.size 27 i0 Try.underlying26 hi hz0 hz1 hz2 _ (k + 1) _ rfl O4.out _ _ _ (l.drop k) rfl (by have := HN.out; rw [List.length_drop]; omega) (fun h => by first | rfl | (cases h; done) | (have h2 := HA.out.nil (by simpa using h); omega)) (by have h2 := RDK.out w4 B4.out; first | exact h2 | simpa [add_plain] using h2) (by omega) B4.out.size ?_; intro v5 w5 h7 h8; have O5 := Lib.hid h7; have B5 := Lib.hid (below_own B4.out h8 O4.out B4.out.size); clear h7 h8)))
        go_ret
        have ho := O5.out
        have e : (l.take k).map u64V ++ [.int .u64 (v : Int)] ++ (l.drop k).map u64V = (pinN l v).map u64V := by rw [HP.out]; simp [u64V]
        rw [e] at ho
        obtain ⟨A9, c9, rfl, hR⟩ := RowU.own ho HBG.out
        exact ⟨A9, _, c9, rfl, hR, B5.out⟩
      · have RDK := Lib.hid (fun w1 (b1 : Below w.heap.size w w1) => (by have := RD0.out w1 b1; rwa [if_neg hck] at this : Reads w1 _ ((l.drop (k)).map u64V)))
        clear RD0
        go_wp2_with (first
          | (at_builtin; go_loud (refine wpList_append_u64s rfl _ _ 26 rfl w.heap.size 27 i0 Try.underlying26 hi hz0 hz1 hz2 _ 0 [] rfl (World.ownsRow_nil _ _ _ _) _ k _ (l.take k) rfl (by have := HN.out; rw [List.length_take]; omega) HA.out.nil (by rw [List.map_take]; exact HA.out.arg.reads.take k) (by omega) (Nat.le_refl _) ?_; intro v3 w3 h7 h8; rw [Nat.zero_add, List.nil_append] at h7; have O3 := Lib.hid h7; have B3 := Lib.hid (below_own (Below.refl _ w) h8 (World.ownsRow_nil w w.heap.size 27 1) (Nat.le_refl _)); clear h7 h8))
          | (at_builtin; go_loud (refine wpList_append_own _ rfl _ _ 26 rfl w.heap.size 27 i0 (.int .u64 0) 1 8 Try.underlying26 hi hz0 hz1 hz2 rfl (by decide) _ k _ rfl (O3.out.alloc _) ⟨w3.heap.size, 0, none⟩ 1 1 [.int .u64 (v : Int)] rfl rfl (lies_one12 _ _ _) (by simp [Value.oneCell']) (by unfold maxLen; omega) (by omega) (Nat.le_trans B3.out.size (by simp)) ?_; intro v4 w4 h7 h8 hnil; clear hnil; have O4 := Lib.hid h7; have B4 := Lib.hid (below_own (below_alloc' B3.out (.cells #[.int .u64 (v : Int)] 27)) h8 (O3.out.alloc _) (Nat.le_trans B3.out.size (by simp))); clear h7 h8))
          | (at_builtin; go_loud (refine wpList_append_u64s rfl _ _ 26 rfl w.heap.size 27 i0 Try.underlying26 hi hz0 hz1 hz2 _ (k + 1) _ rfl O4.out _ _ _ (l.drop k) rfl (by have := HN.out; rw [List.length_drop]; omega) (fun h => by first | rfl | (cases h; done) | (have h2 := HA.out.nil (by simpa using h); omega)) (by have h2 := RDK.out w4 B4.out; first | exact h2 | simpa [add_plain] using h2) (by omega) B4.out.size ?_; intro v5 w5 h7 h8; have O5 := Lib.hid h7; have B5 := Lib.hid (below_own B4.out h8 O4.out B4.out.size); clear h7 h8)))
        go_ret
        have ho := O5.out
        have e : (l.take k).map u64V ++ [.int .u64 (v : Int)] ++ (l.drop k).map u64V = (pinN l v).map u64V := by rw [HP.out]; simp [u64V]
        rw [e] at ho
        obtain ⟨A9, c9, rfl, hR⟩ := RowU.own ho HBG.out
        exact ⟨A9, _, c9, rfl, hR, B5.out⟩
set_option maxRecDepth 100000 in
set_option maxHeartbeats 1000000 in
theorem r12Unpin_any (A : Option Addr) (n c : Nat) (l : List Nat) (v : Nat) (w : World) (h : RowU w A n c l) (hn : n ≤ 100000) :
    Calls Try.prog 10 #[.slice A n c, .int .u64 (v : Int)] w fun e w' => ∃ A' n' c', e = .returned (.tuple #[.slice A' n' c', .bool (decide (v ∈ l))]) ∧ RowU w' A' n' c' (l.erase v) ∧ Below w.heap.size w w' := by
  have HA := Lib.hid h
  have HN := Lib.hid h.arg.len
  have hc := h.arg.room
  have hcm := h.arg.most
  have hcI : c ≤ 9223372036854775807 := by unfold maxLen at hcm; omega
  obtain ⟨i0, hi, hz0, hz1, hz2⟩ := info_parts u64info
  have HBG : Hid (∀ x ∈ l.erase v, x < 2 ^ 64) := Lib.hid (fun x hx => h.arg.big x (List.mem_of_mem_erase hx))
  clear h
  go_enter Try.func10, Try.ntmps10
  go_wp2
  go_loop [6] (fun i => ∃ k : Nat, k ≤ n ∧ i = .int .i64 (k : Int) ∧ ∀ j, j < k → l.getD j 0 ≠ v) (fun i => n - (intOf i).toNat)
  case atStart => exact ⟨0, Nat.zero_le _, rfl, fun j hj => absurd hj (by omega)⟩
  case round =>
    obtain ⟨k, hk, rfl, hj⟩ := hrel
    have HJ := Lib.hid hj
    clear hj
    by_cases hlt : k < n
    · have hkl : k < l.length := by have := HN.out; omega
      obtain ⟨g, off, rfl, ck⟩ := HA.out.arg.reads.at_ hkl
      have HD : Hid (l.getD k 0 = l[k]) := Lib.hid (by rw [List.getD_eq_getElem?_getD, List.getElem?_eq_getElem hkl]; rfl)
      have HKL := Lib.hid hkl
      have HMM : Hid (l[k] ∈ l) := Lib.hid (List.getElem_mem hkl)
      generalize l[k] = x at ck HD HMM
      have hltI : (k : Int) < (n : Int) := by omega
      clear hkl
      by_cases hq : x = v
      · subst hq
        have hb : ((x : Int) == (x : Int)) = true := by simp
        have HE : Hid (l.erase x = l.take k ++ l.drop (k + 1)) := Lib.hid (erase_at l k x HKL.out HJ.out HD.out)
        have hdm : decide (x ∈ l) = true := decide_eq_true HMM.out
        have hkc1 : k + 1 ≤ c := by omega
        have hkc : k ≤ c := by omega
        have hkcI : (k : Int) ≤ (c : Int) := by omega
        have hk0I : (0 : Int) ≤ (k : Int) := by omega
        have RD0 := Lib.hid (fun w1 (b1 : Below w.heap.size w w1) => (HA.out.arg.below b1).reads.dropU HN.out hc (k := k + 1) (by omega))
        by_cases hck : c = k + 1
        · have RDK := Lib.hid (fun w1 (b1 : Below w.heap.size w w1) => (by have := RD0.out w1 b1; rwa [if_pos hck] at this : Reads w1 _ ((l.drop (k + 1)).map u64V)))
          clear RD0
          have hck2 := hck.symm
          subst hck2
          go_wp2_with (first
            | (at_builtin; go_loud (refine wpList_append_u64s rfl _ _ 26 rfl w.heap.size 27 i0 Try.underlying26 hi hz0 hz1 hz2 _ 0 [] rfl (World.ownsRow_nil _ _ _ _) _ k _ (l.take k) rfl (by have := HN.out; rw [List.length_take]; omega) HA.out.nil (by rw [List.map_take]; exact HA.out.arg.reads.take k) (by omega) (Nat.le_refl _) ?_; intro v3 w3 h7 h8; rw [Nat.zero_add, List.nil_append] at h7; have O3 := Lib.hid h7; have B3 := Lib.hid (below_own (Below.refl _ w) h8 (World.ownsRow_nil w w.heap.size 27 1) (Nat.le_refl _)); clear h7 h8))
            | (at_builtin; go_loud (refine wpList_append_u64s rfl _ _ 26 rfl w.heap.size 27 i0 Try.underlying26 hi hz0 hz1 hz2 _ k _ rfl O3.out _ _ _ (l.drop (k + 1)) rfl (by have := HN.out; rw [List.length_drop]; omega) (fun h => by first | rfl | (cases h; done) | (have h2 := HA.out.nil (by simpa using h); omega)) (by have h2 := RDK.out w3 B3.out; first | exact h2 | simpa [add_plain] using h2) (by omega) B3.out.size ?_; intro v5 w5 h7 h8; have O5 := Lib.hid h7; have B5 := Lib.hid (below_own B3.out h8 O3.out B3.out.size); clear h7 h8)))
          go_ret2
          have ho := O5.out
          rw [← List.map_append, ← HE.out] at ho
          obtain ⟨A9, c9, rfl, hR⟩ := RowU.own ho HBG.out
          exact ⟨A9, _, c9, by first | rfl | (rw [hdm]; rfl), hR, B5.out⟩
        · have RDK := Lib.hid (fun w1 (b1 : Below w.heap.size w w1) => (by have := RD0.out w1 b1; rwa [if_neg hck] at this : Reads w1 _ ((l.drop (k + 1)).map u64V)))
          clear RD0
          go_wp2_with (first
            | (at_builtin; go_loud (refine wpList_append_u64s rfl _ _ 26 rfl w.heap.size 27 i0 Try.underlying26 hi hz0 hz1 hz2 _ 0 [] rfl (World.ownsRow_nil _ _ _ _) _ k _ (l.take k) rfl (by have := HN.out; rw [List.length_take]; omega) HA.out.nil (by rw [List.map_take]; exact HA.out.arg.reads.take k) (by omega) (Nat.le_refl _) ?_; intro v3 w3 h7 h8; rw [Nat.zero_add, List.nil_append] at h7; have O3 := Lib.hid h7; have B3 := Lib.hid (below_own (Below.refl _ w) h8 (World.ownsRow_nil w w.heap.size 27 1) (Nat.le_refl _)); clear h7 h8))
            | (at_builtin; go_loud (refine wpList_append_u64s rfl _ _ 26 rfl w.heap.size 27 i0 Try.underlying26 hi hz0 hz1 hz2 _ k _ rfl O3.out _ _ _ (l.drop (k + 1)) rfl (by have := HN.out; rw [List.length_drop]; omega) (fun h => by first | rfl | (cases h; done) | (have h2 := HA.out.nil (by simpa using h); omega)) (by have h2 := RDK.out w3 B3.out; first | exact h2 | simpa [add_plain] using h2) (by omega) B3.out.size ?_; intro v5 w5 h7 h8; have O5 := Lib.hid h7; have B5 := Lib.hid (below_own B3.out h8 O3.out B3.out.size); clear h7 h8)))
          go_ret2
          have ho := O5.out
          rw [← List.map_append, ← HE.out] at ho
          obtain ⟨A9, c9, rfl, hR⟩ := RowU.own ho HBG.out
          exact ⟨A9, _, c9, by first | rfl | (rw [hdm]; rfl), hR, B5.out⟩
      · have hb : ((x : Int) == (v : Int)) = false := by simp; omega
        have HF : Hid (∀ j, j < k + 1 → l.getD j 0 ≠ v) := Lib.hid (fun j hj => by
          by_cases e : j = k
          · subst e
            rw [HD.out]
            exact hq
          · exact HJ.out j (by omega))
        clear hq
        go_wp2
        go_round
        case rel => exact ⟨k + 1, by omega, by go_num, HF.out⟩
        case measure => simp [intOf]; omega
    · obtain rfl : k = n := by omega
      have hltI : ¬ (k : Int) < (k : Int) := by omega
      have HNM : Hid (v ∉ l) := Lib.hid (fun hm => by
        obtain ⟨j, hj, e⟩ := List.mem_iff_getElem.1 hm
        exact HJ.out j (by rw [HN.out]; exact hj) (by rw [List.getD_eq_getElem?_getD, List.getElem?_eq_getElem hj]; exact e))
      go_wp2
      go_ret2
      exact ⟨A, k, c, by rw [decide_eq_false HNM.out]; rfl, by rw [List.erase_of_not_mem HNM.out]; exact HA.out, Below.refl _ _⟩
theorem allTo_yes {l : List Nat} {k : Nat} (h : k = 0 ∨ l.getD k 0 ≠ l.getD (k - 1) 0) : allTo l (k + 1) = allTo l k ++ [l.getD k 0] := by
  rw [allTo, if_pos h]
theorem allTo_no {l : List Nat} {k : Nat} (h : ¬ (k = 0 ∨ l.getD k 0 ≠ l.getD (k - 1) 0)) : allTo l (k + 1) = allTo l k := by
  rw [allTo, if_neg h]
set_option maxRecDepth 100000 in
set_option maxHeartbeats 2000000 in
theorem r12All_any (A : Option Addr) (n c : Nat) (l : List Nat) (w : World) (h : ArgU w A n c l) (hn : n ≤ 100000) :
    Calls Try.prog 18 #[.slice A n c] w (RowEnd (allN l) w) := by
  have hmx : Try.prog.follows .mixedOrders = true := by kernel_rfl
  have HA := Lib.hid h
  have HN := Lib.hid h.len
  obtain ⟨i0, hi, hz0, hz1, hz2⟩ := info_parts u64info
  clear h
  go_enter Try.func18, Try.ntmps18
  go_wp2
  go_loopw [3, 4] (fun v i wr => ∃ k : Nat, k ≤ n ∧ i = .int .i64 (k : Int) ∧ wr.ownsRow w.heap.size 27 1 v (allTo l k).length ((allTo l k).map u64V) ∧ Below w.heap.size w wr) (fun _ i _ => n - (intOf i).toNat)
  case atStart => exact ⟨0, Nat.zero_le _, rfl, World.ownsRow_nil _ _ _ _, Below.refl _ _⟩
  case round =>
    obtain ⟨k, hk, rfl, ho, hb⟩ := hrel
    have HO := Lib.hid ho
    have HB := Lib.hid hb
    clear ho hb
    by_cases hlt : k < n
    · have hkl : k < l.length := by have := HN.out; omega
      have hAr := HA.out.below HB.out
      obtain ⟨g, off, rfl, ck⟩ := hAr.reads.at_ hkl
      have HD : Hid (l.getD k 0 = l[k]) := Lib.hid (by rw [List.getD_eq_getElem?_getD, List.getElem?_eq_getElem hkl]; rfl)
      have HY : Hid (∀ j, k = j + 1 → ∃ y, l.getD j 0 = y ∧ wr.cell? ⟨g, off + j, none⟩ = some (.int .u64 (y : Int))) := Lib.hid (fun j e => by
        obtain ⟨g', o', e', hc⟩ := hAr.reads.at_ (i := j) (by omega)
        injection e' with e'
        injection e' with e1 e2 _
        subst e1 e2
        exact ⟨_, by rw [List.getD_eq_getElem?_getD, List.getElem?_eq_getElem (by omega : j < l.length)]; rfl, hc⟩)
      generalize l[k] = x at ck HD
      have i0' : (0 : Int) ≤ (k : Int) := by omega
      have i1' : (k : Int) < (n : Int) := by omega
      have hlen : (allTo l k).length ≤ k := allTo_len l k
      clear hAr hkl
      by_cases hk0 : k = 0
      · have HT : Hid (allTo l (k + 1) = allTo l k ++ [x]) := Lib.hid (by rw [allTo_yes (Or.inl hk0), HD.out])
        obtain ⟨lk, hlk⟩ : ∃ lk, allTo l k = lk := ⟨_, rfl⟩
        rw [hlk] at HO HT hlen
        have hk0b : ((k : Int) == 0) = true := by simp; omega
        have HK0 := Lib.hid hk0
        have ck2 : wr.drew.cell? ⟨g, off + k, none⟩ = some (.int .u64 (x : Int)) := ck
        clear hlk HY hk0
        go_wp2
        rename_i K hK
        refine wp_held (fun _ : World => True) K hmx ?_ (fun _ _ h => h)
        refine wpAnyH_take (i := 0) (v := .int .i64 (k : Int)) (lit rfl) (by kernel_rfl) (by kernel_rfl) (by kernel_rfl) (fun _ _ _ h => h) (Or.inl ⟨by rfl, ?_⟩) trivial ?_
        · rintro w6 k1
          go_simp
        simp only [Act.put, List.setIfInBounds_toArray, List.set_cons_zero, List.set_cons_succ]
        refine wpAnyH_take (i := 1) (v := .bool true) (lit rfl) (by kernel_rfl) (by kernel_rfl) (by kernel_rfl) (fun _ _ _ h => h) (Or.inl ⟨by rfl, ?_⟩) trivial ?_
        · rintro w6 k1
          go_simp
        simp only [Act.put, List.setIfInBounds_toArray, List.set_cons_zero, List.set_cons_succ]
        refine wpAnyH_take (i := 2) (v := .bool true) (lit rfl) (by kernel_rfl) (by kernel_rfl) (by kernel_rfl) (fun _ _ _ h => h) (Or.inl ⟨by rfl, ?_⟩) trivial ?_
        · rintro w6 k1
          go_simp
        simp only [Act.put, List.setIfInBounds_toArray, List.set_cons_zero, List.set_cons_succ]
        refine wpAnyH_take (i := 3) (v := undef) (lit rfl) (by kernel_rfl) (by kernel_rfl) (by kernel_rfl) (fun _ _ _ h => h) (Or.inr ⟨by rfl, rfl⟩) trivial ?_
        simp only [Act.put, List.setIfInBounds_toArray, List.set_cons_zero, List.set_cons_succ]
        refine wpAnyH_take (i := 4) (v := undef) (lit rfl) (by kernel_rfl) (by kernel_rfl) (by kernel_rfl) (fun _ _ _ h => h) (Or.inr ⟨by rfl, rfl⟩) trivial ?_
        simp only [Act.put, List.setIfInBounds_toArray, List.set_cons_zero, List.set_cons_succ]
        refine wpAnyH_take (i := 5) (v := undef) (lit rfl) (by kernel_rfl) (by kernel_rfl) (by kernel_rfl) (fun _ _ _ h => h) (Or.inr ⟨by rfl, rfl⟩) trivial ?_
        simp only [Act.put, List.setIfInBounds_toArray, List.set_cons_zero, List.set_cons_succ]
        refine wpAnyH_take (i := 6) (v := undef) (lit rfl) (by kernel_rfl) (by kernel_rfl) (by kernel_rfl) (fun _ _ _ h => h) (Or.inr ⟨by rfl, rfl⟩) trivial ?_
        simp only [Act.put, List.setIfInBounds_toArray, List.set_cons_zero, List.set_cons_succ]
        refine wpAnyH_take (i := 7) (v := undef) (lit rfl) (by kernel_rfl) (by kernel_rfl) (by kernel_rfl) (fun _ _ _ h => h) (Or.inr ⟨by rfl, rfl⟩) trivial ?_
        simp only [Act.put, List.setIfInBounds_toArray, List.set_cons_zero, List.set_cons_succ]
        refine wpAnyH_take (i := 8) (v := undef) (lit rfl) (by kernel_rfl) (by kernel_rfl) (by kernel_rfl) (fun _ _ _ h => h) (Or.inr ⟨by rfl, rfl⟩) trivial ?_
        simp only [Act.put, List.setIfInBounds_toArray, List.set_cons_zero, List.set_cons_succ]
        refine wpAnyH_take (i := 9) (v := undef) (lit rfl) (by kernel_rfl) (by kernel_rfl) (by kernel_rfl) (fun _ _ _ h => h) (Or.inr ⟨by rfl, rfl⟩) trivial ?_
        simp only [Act.put, List.setIfInBounds_toArray, List.set_cons_zero, List.set_cons_succ]
        refine wpAnyH_take (i := 10) (v := undef) (lit rfl) (by kernel_rfl) (by kernel_rfl) (by kernel_rfl) (fun _ _ _ h => h) (Or.inr ⟨by rfl, rfl⟩) trivial ?_
        simp only [Act.put, List.setIfInBounds_toArray, List.set_cons_zero, List.set_cons_succ]
        refine wpAnyH_take (i := 11) (v := undef) (lit rfl) (by kernel_rfl) (by kernel_rfl) (by kernel_rfl) (fun _ _ _ h => h) (Or.inr ⟨by rfl, rfl⟩) trivial ?_
        simp only [Act.put, List.setIfInBounds_toArray, List.set_cons_zero, List.set_cons_succ]
        refine wpAnyH_take (i := 12) (v := undef) (lit rfl) (by kernel_rfl) (by kernel_rfl) (by kernel_rfl) (fun _ _ _ h => h) (Or.inr ⟨by rfl, rfl⟩) trivial ?_
        simp only [Act.put, List.setIfInBounds_toArray, List.set_cons_zero, List.set_cons_succ]
        refine wpAnyH_take (i := 13) (v := .bool true) (lit rfl) (by kernel_rfl) (by kernel_rfl) (by kernel_rfl) (fun _ _ _ h => h) (Or.inl ⟨by rfl, ?_⟩) trivial ?_
        · rintro w6 k1
          go_simp
        simp only [Act.put, List.setIfInBounds_toArray, List.set_cons_zero, List.set_cons_succ]
        refine wpAnyH_done (by kernel_rfl) ?_ _
        refine hK _ _ ?_
        go_wp2_with (at_builtin; go_loud (refine wpList_append_own _ rfl _ _ 26 rfl w.heap.size 27 i0 (.int .u64 0) 1 8 Try.underlying26 hi hz0 hz1 hz2 rfl (by decide) _ lk.length _ rfl (HO.out.drew.alloc _) ⟨wr.heap.size, 0, none⟩ 1 1 [.int .u64 (x : Int)] rfl rfl (lies_one12 _ _ _) (by simp [Value.oneCell']) (by unfold maxLen; omega) (by omega) (Nat.le_trans HB.out.size (by simp)) ?_; intro v4 w4 h7 h8 hnil; clear hnil; have O4 := Lib.hid h7; have B4 := Lib.hid (below_own (below_alloc' HB.out.drew (.cells #[.int .u64 (x : Int)] 27)) h8 (HO.out.drew.alloc _) (Nat.le_trans HB.out.size (by simp))); clear h7 h8))
        go_roundw
        case rel => exact ⟨k + 1, by omega, by go_num, by rw [HT.out, List.length_append, List.map_append]; exact O4.out, B4.out⟩
        case measure => simp [intOf]; omega
      · obtain ⟨j, rfl⟩ : ∃ j, k = j + 1 := ⟨k - 1, by omega⟩
        obtain ⟨y, hy, cy⟩ := HY.out j rfl
        have hSd : (fun w' : World => w'.cell? ⟨g, off + (j + 1), none⟩ = some (.int .u64 (x : Int)) ∧ w'.cell? ⟨g, off + j, none⟩ = some (.int .u64 (y : Int))) wr.drew := ⟨ck, cy⟩
        have j0 : (0 : Int) ≤ (j : Int) := by omega
        have j1 : (j : Int) < (n : Int) := by omega
        have j2 : ¬ ((j : Int) + 1 < 0) := by omega
        have j3 : (j : Int) + 1 < (n : Int) := by omega
        have j4 : (((j + 1 : Nat) : Int) == 0) = false := by simp; omega
        have j5 : ¬ ((j : Int) + 1 = 0) := by omega
        have hwj : IntKind.i64.wrap (j : Int) = (j : Int) := by rw [IntKind.wrap_i64]; omega
        have ck2 : wr.drew.cell? ⟨g, off + (j + 1), none⟩ = some (.int .u64 (x : Int)) := ck
        by_cases hxy : x = y
        · have HT : Hid (allTo l (j + 1 + 1) = allTo l (j + 1)) := Lib.hid (allTo_no (by rw [HD.out, Nat.add_sub_cancel, hy]; rintro (h | h); omega; exact h hxy))
          have hne : ((x : Int) != (y : Int)) = false := by simp; omega
          clear hy HY hxy
          go_wp2
          rename_i K hK
          refine wp_held (fun w' : World => w'.cell? ⟨g, off + (j + 1), none⟩ = some (.int .u64 (x : Int)) ∧ w'.cell? ⟨g, off + j, none⟩ = some (.int .u64 (y : Int))) K hmx ?_ (fun _ _ h => h)
          refine wpAnyH_take (i := 0) (v := .int .i64 ((j + 1 : Nat) : Int)) (lit rfl) (by kernel_rfl) (by kernel_rfl) (by kernel_rfl) (fun _ _ _ h => h) (Or.inl ⟨by rfl, ?_⟩) hSd ?_
          · rintro w6 ⟨k1, k2⟩
            go_simp
          simp only [Act.put, List.setIfInBounds_toArray, List.set_cons_zero, List.set_cons_succ]
          refine wpAnyH_take (i := 1) (v := .bool false) (lit rfl) (by kernel_rfl) (by kernel_rfl) (by kernel_rfl) (fun _ _ _ h => h) (Or.inl ⟨by rfl, ?_⟩) hSd ?_
          · rintro w6 ⟨k1, k2⟩
            go_simp
          simp only [Act.put, List.setIfInBounds_toArray, List.set_cons_zero, List.set_cons_succ]
          refine wpAnyH_take (i := 2) (v := .bool false) (lit rfl) (by kernel_rfl) (by kernel_rfl) (by kernel_rfl) (fun _ _ _ h => h) (Or.inl ⟨by rfl, ?_⟩) hSd ?_
          · rintro w6 ⟨k1, k2⟩
            go_simp
          simp only [Act.put, List.setIfInBounds_toArray, List.set_cons_zero, List.set_cons_succ]
          refine wpAnyH_take (i := 3) (v := .slice (some ⟨g, off, none⟩) n c) (lit rfl) (by kernel_rfl) (by kernel_rfl) (by kernel_rfl) (fun _ _ _ h => h) (Or.inl ⟨by rfl, ?_⟩) hSd ?_
          · rintro w6 ⟨k1, k2⟩
            go_simp
          simp only [Act.put, List.setIfInBounds_toArray, List.set_cons_zero, List.set_cons_succ]
          refine wpAnyH_take (i := 4) (v := .int .i64 ((j + 1 : Nat) : Int)) (lit rfl) (by kernel_rfl) (by kernel_rfl) (by kernel_rfl) (fun _ _ _ h => h) (Or.inl ⟨by rfl, ?_⟩) hSd ?_
          · rintro w6 ⟨k1, k2⟩
            go_simp
          simp only [Act.put, List.setIfInBounds_toArray, List.set_cons_zero, List.set_cons_succ]
          refine wpAnyH_take (i := 5) (v := .pointer (some ⟨g, off + (j + 1), none⟩)) (lit rfl) (by kernel_rfl) (by kernel_rfl) (by kernel_rfl) (fun _ _ _ h => h) (Or.inl ⟨by rfl, ?_⟩) hSd ?_
          · rintro w6 ⟨k1, k2⟩
            go_simp
          simp only [Act.put, List.setIfInBounds_toArray, List.set_cons_zero, List.set_cons_succ]
          refine wpAnyH_take (i := 6) (v := .int .u64 (x : Int)) (lit rfl) (by kernel_rfl) (by kernel_rfl) (by kernel_rfl) (fun _ _ _ h => h) (Or.inl ⟨by rfl, ?_⟩) hSd ?_
          · rintro w6 ⟨k1, k2⟩
            go_simp
          simp only [Act.put, List.setIfInBounds_toArray, List.set_cons_zero, List.set_cons_succ]
          refine wpAnyH_take (i := 7) (v := .slice (some ⟨g, off, none⟩) n c) (lit rfl) (by kernel_rfl) (by kernel_rfl) (by kernel_rfl) (fun _ _ _ h => h) (Or.inl ⟨by rfl, ?_⟩) hSd ?_
          · rintro w6 ⟨k1, k2⟩
            go_simp
          simp only [Act.put, List.setIfInBounds_toArray, List.set_cons_zero, List.set_cons_succ]
          refine wpAnyH_take (i := 8) (v := .int .i64 ((j + 1 : Nat) : Int)) (lit rfl) (by kernel_rfl) (by kernel_rfl) (by kernel_rfl) (fun _ _ _ h => h) (Or.inl ⟨by rfl, ?_⟩) hSd ?_
          · rintro w6 ⟨k1, k2⟩
            go_simp
          simp only [Act.put, List.setIfInBounds_toArray, List.set_cons_zero, List.set_cons_succ]
          refine wpAnyH_take (i := 9) (v := .int .i64 (j : Int)) (lit rfl) (by kernel_rfl) (by kernel_rfl) (by kernel_rfl) (fun _ _ _ h => h) (Or.inl ⟨by rfl, ?_⟩) hSd ?_
          · rintro w6 ⟨k1, k2⟩
            go_simp
          simp only [Act.put, List.setIfInBounds_toArray, List.set_cons_zero, List.set_cons_succ]
          refine wpAnyH_take (i := 10) (v := .pointer (some ⟨g, off + j, none⟩)) (lit rfl) (by kernel_rfl) (by kernel_rfl) (by kernel_rfl) (fun _ _ _ h => h) (Or.inl ⟨by rfl, ?_⟩) hSd ?_
          · rintro w6 ⟨k1, k2⟩
            go_simp
          simp only [Act.put, List.setIfInBounds_toArray, List.set_cons_zero, List.set_cons_succ]
          refine wpAnyH_take (i := 11) (v := .int .u64 (y : Int)) (lit rfl) (by kernel_rfl) (by kernel_rfl) (by kernel_rfl) (fun _ _ _ h => h) (Or.inl ⟨by rfl, ?_⟩) hSd ?_
          · rintro w6 ⟨k1, k2⟩
            go_simp
          simp only [Act.put, List.setIfInBounds_toArray, List.set_cons_zero, List.set_cons_succ]
          refine wpAnyH_take (i := 12) (v := .bool false) (lit rfl) (by kernel_rfl) (by kernel_rfl) (by kernel_rfl) (fun _ _ _ h => h) (Or.inl ⟨by rfl, ?_⟩) hSd ?_
          · rintro w6 ⟨k1, k2⟩
            go_simp
          simp only [Act.put, List.setIfInBounds_toArray, List.set_cons_zero, List.set_cons_succ]
          refine wpAnyH_take (i := 13) (v := .bool false) (lit rfl) (by kernel_rfl) (by kernel_rfl) (by kernel_rfl) (fun _ _ _ h => h) (Or.inl ⟨by rfl, ?_⟩) hSd ?_
          · rintro w6 ⟨k1, k2⟩
            go_simp
          simp only [Act.put, List.setIfInBounds_toArray, List.set_cons_zero, List.set_cons_succ]
          refine wpAnyH_done (by kernel_rfl) ?_ _
          refine hK _ _ ?_
          go_wp2
          go_roundw
          case rel => exact ⟨j + 1 + 1, by omega, by go_num, by rw [HT.out]; exact HO.out, HB.out.drew⟩
          case measure => simp [intOf]; omega
        · have HT : Hid (allTo l (j + 1 + 1) = allTo l (j + 1) ++ [x]) := Lib.hid (by rw [allTo_yes (Or.inr (by rw [HD.out, Nat.add_sub_cancel, hy]; exact hxy)), HD.out])
          have hne : ((x : Int) != (y : Int)) = true := by simp; omega
          obtain ⟨lk, hlk⟩ : ∃ lk, allTo l (j + 1) = lk := ⟨_, rfl⟩
          rw [hlk] at HO HT hlen
          clear hy HY hxy hlk
          go_wp2
          rename_i K hK
          refine wp_held (fun w' : World => w'.cell? ⟨g, off + (j + 1), none⟩ = some (.int .u64 (x : Int)) ∧ w'.cell? ⟨g, off + j, none⟩ = some (.int .u64 (y : Int))) K hmx ?_ (fun _ _ h => h)
          refine wpAnyH_take (i := 0) (v := .int .i64 ((j + 1 : Nat) : Int)) (lit rfl) (by kernel_rfl) (by kernel_rfl) (by kernel_rfl) (fun _ _ _ h => h) (Or.inl ⟨by rfl, ?_⟩) hSd ?_
          · rintro w6 ⟨k1, k2⟩
            go_simp
          simp only [Act.put, List.setIfInBounds_toArray, List.set_cons_zero, List.set_cons_succ]
          refine wpAnyH_take (i := 1) (v := .bool false) (lit rfl) (by kernel_rfl) (by kernel_rfl) (by kernel_rfl) (fun _ _ _ h => h) (Or.inl ⟨by rfl, ?_⟩) hSd ?_
          · rintro w6 ⟨k1, k2⟩
            go_simp
          simp only [Act.put, List.setIfInBounds_toArray, List.set_cons_zero, List.set_cons_succ]
          refine wpAnyH_take (i := 2) (v := .bool false) (lit rfl) (by kernel_rfl) (by kernel_rfl) (by kernel_rfl) (fun _ _ _ h => h) (Or.inl ⟨by rfl, ?_⟩) hSd ?_
          · rintro w6 ⟨k1, k2⟩
            go_simp
          simp only [Act.put, List.setIfInBounds_toArray, List.set_cons_zero, List.set_cons_succ]
          refine wpAnyH_take (i := 3) (v := .slice (some ⟨g, off, none⟩) n c) (lit rfl) (by kernel_rfl) (by kernel_rfl) (by kernel_rfl) (fun _ _ _ h => h) (Or.inl ⟨by rfl, ?_⟩) hSd ?_
          · rintro w6 ⟨k1, k2⟩
            go_simp
          simp only [Act.put, List.setIfInBounds_toArray, List.set_cons_zero, List.set_cons_succ]
          refine wpAnyH_take (i := 4) (v := .int .i64 ((j + 1 : Nat) : Int)) (lit rfl) (by kernel_rfl) (by kernel_rfl) (by kernel_rfl) (fun _ _ _ h => h) (Or.inl ⟨by rfl, ?_⟩) hSd ?_
          · rintro w6 ⟨k1, k2⟩
            go_simp
          simp only [Act.put, List.setIfInBounds_toArray, List.set_cons_zero, List.set_cons_succ]
          refine wpAnyH_take (i := 5) (v := .pointer (some ⟨g, off + (j + 1), none⟩)) (lit rfl) (by kernel_rfl) (by kernel_rfl) (by kernel_rfl) (fun _ _ _ h => h) (Or.inl ⟨by rfl, ?_⟩) hSd ?_
          · rintro w6 ⟨k1, k2⟩
            go_simp
          simp only [Act.put, List.setIfInBounds_toArray, List.set_cons_zero, List.set_cons_succ]
          refine wpAnyH_take (i := 6) (v := .int .u64 (x : Int)) (lit rfl) (by kernel_rfl) (by kernel_rfl) (by kernel_rfl) (fun _ _ _ h => h) (Or.inl ⟨by rfl, ?_⟩) hSd ?_
          · rintro w6 ⟨k1, k2⟩
            go_simp
          simp only [Act.put, List.setIfInBounds_toArray, List.set_cons_zero, List.set_cons_succ]
          refine wpAnyH_take (i := 7) (v := .slice (some ⟨g, off, none⟩) n c) (lit rfl) (by kernel_rfl) (by kernel_rfl) (by kernel_rfl) (fun _ _ _ h => h) (Or.inl ⟨by rfl, ?_⟩) hSd ?_
          · rintro w6 ⟨k1, k2⟩
            go_simp
          simp only [Act.put, List.setIfInBounds_toArray, List.set_cons_zero, List.set_cons_succ]
          refine wpAnyH_take (i := 8) (v := .int .i64 ((j + 1 : Nat) : Int)) (lit rfl) (by kernel_rfl) (by kernel_rfl) (by kernel_rfl) (fun _ _ _ h => h) (Or.inl ⟨by rfl, ?_⟩) hSd ?_
          · rintro w6 ⟨k1, k2⟩
            go_simp
          simp only [Act.put, List.setIfInBounds_toArray, List.set_cons_zero, List.set_cons_succ]
          refine wpAnyH_take (i := 9) (v := .int .i64 (j : Int)) (lit rfl) (by kernel_rfl) (by kernel_rfl) (by kernel_rfl) (fun _ _ _ h => h) (Or.inl ⟨by rfl, ?_⟩) hSd ?_
          · rintro w6 ⟨k1, k2⟩
            go_simp
          simp only [Act.put, List.setIfInBounds_toArray, List.set_cons_zero, List.set_cons_succ]
          refine wpAnyH_take (i := 10) (v := .pointer (some ⟨g, off + j, none⟩)) (lit rfl) (by kernel_rfl) (by kernel_rfl) (by kernel_rfl) (fun _ _ _ h => h) (Or.inl ⟨by rfl, ?_⟩) hSd ?_
          · rintro w6 ⟨k1, k2⟩
            go_simp
          simp only [Act.put, List.setIfInBounds_toArray, List.set_cons_zero, List.set_cons_succ]
          refine wpAnyH_take (i := 11) (v := .int .u64 (y : Int)) (lit rfl) (by kernel_rfl) (by kernel_rfl) (by kernel_rfl) (fun _ _ _ h => h) (Or.inl ⟨by rfl, ?_⟩) hSd ?_
          · rintro w6 ⟨k1, k2⟩
            go_simp
          simp only [Act.put, List.setIfInBounds_toArray, List.set_cons_zero, List.set_cons_succ]
          refine wpAnyH_take (i := 12) (v := .bool true) (lit rfl) (by kernel_rfl) (by kernel_rfl) (by kernel_rfl) (fun _ _ _ h => h) (Or.inl ⟨by rfl, ?_⟩) hSd ?_
          · rintro w6 ⟨k1, k2⟩
            go_simp
          simp only [Act.put, List.setIfInBounds_toArray, List.set_cons_zero, List.set_cons_succ]
          refine wpAnyH_take (i := 13) (v := .bool true) (lit rfl) (by kernel_rfl) (by kernel_rfl) (by kernel_rfl) (fun _ _ _ h => h) (Or.inl ⟨by rfl, ?_⟩) hSd ?_
          · rintro w6 ⟨k1, k2⟩
            go_simp
          simp only [Act.put, List.setIfInBounds_toArray, List.set_cons_zero, List.set_cons_succ]
          refine wpAnyH_done (by kernel_rfl) ?_ _
          refine hK _ _ ?_
          go_wp2_with (at_builtin; go_loud (refine wpList_append_own _ rfl _ _ 26 rfl w.heap.size 27 i0 (.int .u64 0) 1 8 Try.underlying26 hi hz0 hz1 hz2 rfl (by decide) _ lk.length _ rfl (HO.out.drew.alloc _) ⟨wr.heap.size, 0, none⟩ 1 1 [.int .u64 (x : Int)] rfl rfl (lies_one12 _ _ _) (by simp [Value.oneCell']) (by unfold maxLen; omega) (by omega) (Nat.le_trans HB.out.size (by simp)) ?_; intro v4 w4 h7 h8 hnil; clear hnil; have O4 := Lib.hid h7; have B4 := Lib.hid (below_own (below_alloc' HB.out.drew (.cells #[.int .u64 (x : Int)] 27)) h8 (HO.out.drew.alloc _) (Nat.le_trans HB.out.size (by simp))); clear h7 h8))
          go_roundw
          case rel => exact ⟨j + 1 + 1, by omega, by go_num, by rw [HT.out, List.length_append, List.map_append]; exact O4.out, B4.out⟩
          case measure => simp [intOf]; omega
    · obtain rfl : k = n := by omega
      have hltI : ¬ (k : Int) < (k : Int) := by omega
      have hall : allTo l k = allN l := by rw [HN.out]; rfl
      have ho := HO.out
      rw [hall] at ho
      obtain ⟨A2, c2, rfl, hR⟩ := RowU.own ho (fun x hx => HA.out.big x (allN_mem.1 hx))
      have HR := Lib.hid hR
      obtain ⟨w3, hw3⟩ : ∃ w3 : World, w3 = wr := ⟨_, rfl⟩
      subst hw3
      have HAL := Lib.hid hall
      clear ho hR hall
      go_wp2
      go_ret
      exact ⟨A2, _, c2, rfl, HR.out, HB.out⟩
end Go.Proofs.Ytlfmmmgdilencaa
