import Derived.Test.YtglkmpglpddfdaaGreatDoorJ13
import Derived.Test.YtglkmpglpddfdaaGreatDoorJ23
import Derived.Test.YtglkmpglpddfdaaGreatDoorJGkc
import Derived.Test.YtglkmpglpddfdaaGreatDoorJ20
import Derived.Test.YtglkmpglpddfdaaGreatDoorJPal
/- Of a claim's texts, joined: Cpe Cpl. No statement but in the last. -/
section
namespace Go.Proofs.YtglkmpglpddfdaaGreatDoor
open Go.RowKit
set_option linter.unusedVariables false

theorem pm_ok (M : Nat) (l : List UInt8) : ∀ (acc u : Nat), Lib.parseUintM M acc l = .ok u → l.all digB = true ∧ l.foldl (fun n b => n * 10 + (b.toNat - 48)) acc = u := by
  induction l with
  | nil => intro acc u h; simp [Lib.parseUintM] at h; exact ⟨rfl, h⟩
  | cons c r ih =>
    intro acc u h
    unfold Lib.parseUintM at h
    split at h
    · rename_i hd
      split at h
      · cases h
      · split at h
        · cases h
        · obtain ⟨h1, h2⟩ := ih _ _ h
          exact ⟨by rw [List.all_cons, h1]; simp [digB, hd.1, hd.2], h2⟩
    · cases h
theorem pm_all (l : List UInt8) : ∀ (acc k : Nat), acc < 10 ^ k → k + l.length ≤ 4 → l.all digB = true → Lib.parseUintM (2 ^ 64 - 1) acc l = .ok (l.foldl (fun n b => n * 10 + (b.toNat - 48)) acc) := by
  induction l with
  | nil => intro acc k _ _ _; rfl
  | cons c r ih =>
    intro acc k ha hk hd
    rw [List.all_cons, Bool.and_eq_true] at hd
    have hc : 48 ≤ c.toNat ∧ c.toNat ≤ 57 := by have := hd.1; simpa [digB] using this
    have hlen : k + 1 + r.length ≤ 4 := by simp at hk; omega
    have hb : acc * 10 + (c.toNat - 48) < 10 ^ (k + 1) := by rw [Nat.pow_succ]; omega
    have h4 : 10 ^ (k + 1) ≤ 10 ^ 4 := Nat.pow_le_pow_right (by omega) (by omega)
    unfold Lib.parseUintM
    rw [if_pos hc, if_neg (by omega), if_neg (by omega)]
    exact ih _ (k + 1) hb hlen hd.2
theorem pu_cases (l : List UInt8) (hl : l.length ≤ 4) : (∃ u, Lib.parseUintB 64 l = .ok u ∧ u < 10000 ∧ quotaN l = if 4 ≤ u ∧ u ≤ 1000 then (u : Int) else -1) ∨ ((∀ u, Lib.parseUintB 64 l ≠ .ok u) ∧ quotaN l = -1) := by
  by_cases hd : l.all digB = true ∧ 1 ≤ l.length
  · left
    have hne : l ≠ [] := by rintro rfl; simp at hd
    have hp := pm_all l 0 0 (by omega) (by omega) hd.1
    refine ⟨valN l, by unfold Lib.parseUintB; rw [if_neg hne]; exact hp, ?_, ?_⟩
    · have key : ∀ (l : List UInt8) (acc k : Nat), acc < 10 ^ k → l.all digB = true → l.foldl (fun n b => n * 10 + (b.toNat - 48)) acc < 10 ^ (k + l.length) := by
        intro l
        induction l with
        | nil => intro acc k h _; simpa using h
        | cons c r ih =>
          intro acc k h hd
          rw [List.all_cons, Bool.and_eq_true] at hd
          have hc : 48 ≤ c.toNat ∧ c.toNat ≤ 57 := by have := hd.1; simpa [digB] using this
          have := ih (acc * 10 + (c.toNat - 48)) (k + 1) (by rw [Nat.pow_succ]; omega) hd.2
          rw [List.length_cons, show k + (r.length + 1) = k + 1 + r.length by omega]
          exact this
      have h1 := key l 0 0 (by omega) hd.1
      have h2 : 10 ^ (0 + l.length) ≤ 10 ^ 4 := Nat.pow_le_pow_right (by omega) (by omega)
      exact Nat.lt_of_lt_of_le h1 h2
    · unfold quotaN
      by_cases h : 4 ≤ valN l ∧ valN l ≤ 1000
      · rw [if_pos ⟨hd.1, hd.2, hl, h.1, h.2⟩, if_pos h]
      · rw [if_neg (fun hh => h ⟨hh.2.2.2.1, hh.2.2.2.2⟩), if_neg h]
  · right
    constructor
    · intro u hu
      unfold Lib.parseUintB at hu
      split at hu
      · cases hu
      · rename_i hne
        exact hd ⟨(pm_ok _ l 0 u hu).1, List.length_pos_iff.2 hne⟩
    · unfold quotaN
      rw [if_neg (fun hh => hd ⟨hh.1, hh.2.1⟩)]
def QuotaEnd (q : Int) (w : World) (e : Ending) (w' : World) : Prop := e = .returned (.tuple #[.int .i64 (if q < 0 then 0 else q), .bool (decide (0 ≤ q))]) ∧ Below w.heap.size w w'
theorem isQuota_any (n : Int) (w : World) : Calls Tryz.prog 68 #[.int .i64 n] w fun e w' => e = .returned (.bool (decide (4 ≤ n ∧ n ≤ 1000))) ∧ w = w' := by
  obtain ⟨b1, h1⟩ : ∃ b, decide ((4 : Int) ≤ n) = b := ⟨_, rfl⟩
  obtain ⟨b2, h2⟩ : ∃ b, decide (n ≤ 1000) = b := ⟨_, rfl⟩
  have HB : Hid (decide (4 ≤ n ∧ n ≤ 1000) = (b1 && b2)) := Lib.hid (by rw [← h1, ← h2, Bool.eq_iff_iff]; simp)
  rw [HB.out]
  clear HB
  cases b1 <;> cases b2
  all_goals
    go_enter Tryz.func68, Tryz.ntmps68
    go_wp2
    go_ret
    exact ⟨rfl, rfl⟩
theorem ret_quota {a b : Int} {c d : Bool} (h1 : a = b) (h2 : c = d) : Ending.returned (.tuple #[.int .i64 a, .bool c]) = Ending.returned (.tuple #[.int .i64 b, .bool d]) := by rw [h1, h2]
theorem bytesWorld_bel (w : World) (t : TypeId) (s : ByteArray) : Below w.heap.size w (Lib.bytesWorld w t s) := Lib.bytesWorld_below w t s
set_option maxRecDepth 100000 in
set_option maxHeartbeats 1000000 in
theorem quotaOf_any (l : List UInt8) (w : World) (ht : Base5 w) (hl : l.length ≤ 281474976710656) : Calls Tryz.prog 117 #[.string ⟨l.toArray⟩] w (QuotaEnd (quotaN l) w) := by
  have hsz : (⟨l.toArray⟩ : ByteArray).size = l.length := size_list l
  by_cases h4 : 4 < l.length
  · have e1 : decide (4 < (l.length : Int)) = true := by simp; omega
    have HQ : Hid (quotaN l = -1) := Lib.hid (by unfold quotaN; rw [if_neg (by omega)])
    unfold QuotaEnd
    rw [HQ.out]
    go_enter Tryz.func117, Tryz.ntmps117
    go_wp2
    go_ret2
    exact ⟨rfl, Below.refl _ _⟩
  · have e1 : decide (4 < (l.length : Int)) = false := by simp; omega
    have hQ := Lib.hid (fun n w1 => isQuota_any n w1)
    rcases pu_cases l (by omega) with ⟨u, hu, hu4, hq⟩ | ⟨hno, hq⟩
    · have HP := Lib.hid (Tryz.strconv_ParseUint_10_at0_ok ⟨l.toArray⟩ (by rw [size_list]; omega) u hu w)
      have hw : IntKind.i64.wrap (u : Int) = u := by simp [IntKind.wrap, IntKind.signed, IntKind.bits]; omega
      unfold QuotaEnd
      rw [hq]
      clear hq hu
      by_cases hin : 4 ≤ u ∧ u ≤ 1000
      · rw [if_pos hin]
        have HI : Hid (decide (4 ≤ (u : Int) ∧ (u : Int) ≤ 1000) = true) := Lib.hid (by simp; omega)
        have HQ1 := Lib.hid (fun w1 => isQuota_any (u : Int) w1)
        rw [HI.out] at HQ1
        go_enter Tryz.func117, Tryz.ntmps117
        go_wp2_with (first
          | (go_at_call 139; (with_reducible refine HP.out.mono ?_); rintro e w1 ⟨rfl, h1⟩; have B1 := Lib.hid (show Below w.heap.size w w1 by rcases h1 with rfl | rfl; exact Below.refl _ _; exact bytesWorld_bel _ _ _); clear h1)
          | (go_at_call 68; (with_reducible refine (HQ1.out _).mono ?_); rintro e w2 ⟨rfl, rfl⟩))
        go_ret2
        exact ⟨ret_quota (by first | rfl | (rw [if_neg (by omega)])) (by simp), B1.out⟩
      · rw [if_neg hin]
        have HI : Hid (decide (4 ≤ (u : Int) ∧ (u : Int) ≤ 1000) = false) := Lib.hid (by simp; omega)
        have HQ1 := Lib.hid (fun w1 => isQuota_any (u : Int) w1)
        rw [HI.out] at HQ1
        go_enter Tryz.func117, Tryz.ntmps117
        go_wp2_with (first
          | (go_at_call 139; (with_reducible refine HP.out.mono ?_); rintro e w1 ⟨rfl, h1⟩; have B1 := Lib.hid (show Below w.heap.size w w1 by rcases h1 with rfl | rfl; exact Below.refl _ _; exact bytesWorld_bel _ _ _); clear h1)
          | (go_at_call 68; (with_reducible refine (HQ1.out _).mono ?_); rintro e w2 ⟨rfl, rfl⟩))
        go_ret2
        exact ⟨rfl, B1.out⟩
    · unfold QuotaEnd
      rw [hq]
      have HP : Hid (Calls Tryz.prog 139 #[.string ⟨l.toArray⟩, .int .i64 10, .int .i64 0] w fun e w' => ∃ (v : Int) (N : Nat), e = .returned (.tuple #[.int .u64 v, .iface 177 (.pointer (some ⟨N, 0, none⟩))]) ∧ Below w.heap.size w w') := Lib.hid (by
        obtain ⟨tp, p, hsy⟩ := ht.synt
        obtain ⟨tq, q, hrg⟩ := ht.rang
        cases h : Lib.parseUintB 64 l
        · exact absurd h (hno _)
        · refine (Any.strconv_ParseUint_10_at0_syntax_var Tryz.laysPu14 ⟨l.toArray⟩ (by rw [size_list]; omega) h tp p w hsy).mono ?_
          rintro e w' ⟨M, rfl, _, _, hb⟩
          exact ⟨0, M, rfl, hb⟩
        · refine (Any.strconv_ParseUint_10_at0_range_var Tryz.laysPu14 ⟨l.toArray⟩ (by rw [size_list]; omega) h tq q w hrg).mono ?_
          rintro e w' ⟨M, rfl, _, _, hb⟩
          exact ⟨_, M, rfl, hb⟩)
      clear hq hno ht
      go_enter Tryz.func117, Tryz.ntmps117
      go_wp2_with (go_at_call 139; (with_reducible refine HP.out.mono ?_); rintro e w1 ⟨v, M, rfl, h1⟩; have B1 := Lib.hid h1; clear h1)
      go_ret2
      exact ⟨rfl, B1.out⟩

/-! Quotas, names of a row. -/
def quoB (n : Int) : Bool := decide (4 ≤ n ∧ n ≤ 1000)
theorem quotas1_any (n : Int) (w : World) : Calls Tryz.prog 67 #[.int .i64 n] w fun e w' => e = .returned (.bool (!quoB n)) ∧ w = w' := by
  have HI := Lib.hid (fun w1 => isQuota_any n w1)
  change Hid (∀ w1, Calls Tryz.prog 68 #[.int .i64 n] w1 fun e w' => e = .returned (.bool (quoB n)) ∧ w1 = w') at HI
  generalize quoB n = b at HI ⊢
  go_enter Tryz.func67, Tryz.ntmps67
  go_wp2_with (go_at_call 68; (with_reducible refine (HI.out _).mono ?_); rintro e w2 ⟨rfl, rfl⟩)
  go_ret
  exact ⟨rfl, rfl⟩
set_option maxHeartbeats 1000000 in
theorem indexFI_any (A : Option Addr) (n c : Nat) (l : List Int) (w : World) (h : ArgI w A n c l) (hn : n ≤ 1000000) :
    Calls Tryz.prog 109 #[.slice A n c, .func (.func 67) #[] #[]] w fun e w' => ∃ x : Int, e = .returned (.int .i64 x) ∧ decide (0 ≤ x) = !l.all quoB ∧ w = w' := by
  have HA := Lib.hid h
  have HN := Lib.hid h.len
  have HQ := Lib.hid (fun n w1 => quotas1_any n w1)
  clear h
  go_enter Tryz.func109, Tryz.ntmps109
  go_wp2
  go_loopw [8] (fun i wr => wr = w ∧ ∃ k : Nat, k ≤ n ∧ i = .int .i64 k ∧ ∀ j (h : j < l.length), j < k → quoB l[j] = true) (fun i _ => n - (intOf i).toNat)
  case atStart => exact ⟨rfl, 0, Nat.zero_le _, rfl, fun j _ hj => absurd hj (by omega)⟩
  case round =>
    obtain ⟨rfl, k, hk, rfl, hj⟩ := hrel
    have HJ := Lib.hid hj
    clear hj
    by_cases hlt : k < n
    · have hkl : k < l.length := by have := HN.out; omega
      obtain ⟨g, off, rfl, ck⟩ := HA.out.reads.zint hkl
      have i0 : (0 : Int) ≤ (k : Int) := by omega
      have i1 : (k : Int) < (n : Int) := by omega
      cases hq : quoB l[k]
      · have HF : Hid (decide (0 ≤ (k : Int)) = !l.all quoB) := Lib.hid (by
          have : l.all quoB = false := by
            cases e : l.all quoB
            · rfl
            · rw [List.all_eq_true] at e
              rw [e _ (List.getElem_mem hkl)] at hq
              cases hq
          rw [this]
          simp)
        have HQ1 := Lib.hid (HQ.out l[k])
        rw [hq] at HQ1
        generalize l[k] = u at ck HQ1
        clear hq hkl
        go_wp2_with (go_at_call 67; (with_reducible refine (HQ1.out _).mono ?_); rintro e w2 ⟨rfl, rfl⟩)
        go_ret
        exact ⟨_, rfl, HF.out, rfl⟩
      · have HX : Hid (∀ j (h : j < l.length), j < k + 1 → quoB l[j] = true) := Lib.hid (fun j h hj => by
          by_cases e : j = k
          · subst e; exact hq
          · exact HJ.out j h (by omega))
        have HQ1 := Lib.hid (HQ.out l[k])
        rw [hq] at HQ1
        generalize l[k] = u at ck HQ1
        clear hq hkl
        go_wp2_with (go_at_call 67; (with_reducible refine (HQ1.out _).mono ?_); rintro e w2 ⟨rfl, rfl⟩)
        go_roundw
        case rel => exact ⟨by first | rfl | trivial, k + 1, by omega, by go_num, HX.out⟩
        case measure => simp [intOf]; omega
    · obtain rfl : k = n := by omega
      have HF : Hid (decide (0 ≤ (-1 : Int)) = !l.all quoB) := Lib.hid (by
        have : l.all quoB = true := by
          rw [List.all_eq_true]
          intro x hx
          obtain ⟨j, hj, rfl⟩ := List.getElem_of_mem hx
          exact HJ.out j hj (by have := HN.out; omega)
        rw [this]
        rfl)
      go_wp2
      go_ret
      exact ⟨_, rfl, HF.out, rfl⟩
theorem areQuotas_any (A : Option Addr) (n c : Nat) (l : List Int) (w : World) (h : ArgI w A n c l) (hn : n ≤ 1000000) :
    Calls Tryz.prog 35 #[.slice A n c] w fun e w' => e = .returned (.bool (l.all quoB)) ∧ w = w' := by
  have HI := Lib.hid (fun w1 (hb : w1 = w) => indexFI_any A n c l w1 (hb ▸ h) hn)
  have HC : Hid (Calls Tryz.prog 66 #[.slice A n c, .func (.func 67) #[] #[]] w fun e w' => e = .returned (.bool (!l.all quoB)) ∧ w = w') := Lib.hid (by
    generalize (!l.all quoB) = b at HI ⊢
    clear h
    go_enter Tryz.func66, Tryz.ntmps66
    go_wp2_with (go_at_call 109; (with_reducible refine (HI.out _ rfl).mono ?_); rintro e w2 ⟨x, rfl, hx, rfl⟩)
    go_ret
    exact ⟨by rw [← hx]; rfl, rfl⟩)
  clear h HI
  generalize l.all quoB = b at HC ⊢
  go_enter Tryz.func35, Tryz.ntmps35
  go_wp2_with (go_at_call 66; (with_reducible refine HC.out.mono ?_); rintro e w2 ⟨rfl, rfl⟩)
  go_ret
  exact ⟨ret_bool (by simp), rfl⟩
def nmB (l : List (List UInt8)) (i : Nat) : Bool := nameB (l.getD i []) && !decide (0 ≤ findN (l.take i) (l.getD i []))
set_option maxRecDepth 100000 in
set_option maxHeartbeats 2000000 in
theorem areNames_any (A : Option Addr) (n c : Nat) (l : List (List UInt8)) (w : World) (ht : Base5 w) (h : ArgT w A n c l) (hn : n ≤ 1000) (hs : ∀ x ∈ l, x.length ≤ 281474976710656) :
    Calls Tryz.prog 34 #[.slice A n c] w (BoolEnd ((List.range l.length).all (nmB l)) w) := by
  have HA := Lib.hid h
  have HN := Lib.hid h.len
  have HT := Lib.hid ht
  have hcm : c ≤ 9223372036854775807 := h.most
  have hnc : n ≤ c := h.room
  clear h ht
  go_enter Tryz.func34, Tryz.ntmps34
  go_wp2
  go_loopw [7] (fun i wr => Below w.heap.size w wr ∧ ∃ k : Nat, k ≤ n ∧ i = .int .i64 k ∧ ∀ j, j < k → nmB l j = true) (fun i _ => n - (intOf i).toNat)
  case atStart => exact ⟨Below.refl _ _, 0, Nat.zero_le _, rfl, fun j hj => absurd hj (by omega)⟩
  case round =>
    obtain ⟨hB, k, hk, rfl, hj⟩ := hrel
    have HJ := Lib.hid hj
    have HB := Lib.hid hB
    clear hj hB
    by_cases hlt : k < n
    · have hkl : k < l.length := by have := HN.out; omega
      have hA := HA.out.below HB.out
      obtain ⟨g, off, rfl, ck⟩ := hA.reads.sat_ hkl
      have hg := getT_at l k hkl
      have HNm := Lib.hid (fun w1 (hb : Below w.heap.size w w1) => coName_any l[k] w1 (HT.out.below hb) (hs _ (List.getElem_mem hkl)))
      have HCo := Lib.hid (fun w1 (hb : Below w.heap.size w w1) => containsS_any (some ⟨g, off, none⟩) k c (l.take k) l[k] w1 ((HA.out.below hb).take hk) (by omega))
      have HNo : Hid (nmB l k = (nameB l[k] && !decide (0 ≤ findN (l.take k) l[k]))) := Lib.hid (by unfold nmB; rw [hg])
      have HFa : Hid (nmB l k = false → (List.range l.length).all (nmB l) = false) := Lib.hid (fun hf => by
        cases e : (List.range l.length).all (nmB l)
        · rfl
        · rw [List.all_eq_true] at e
          rw [e k (by simpa using hkl)] at hf
          cases hf)
      have HTr : Hid (nmB l k = true → ∀ j, j < k + 1 → nmB l j = true) := Lib.hid (fun ht j hj => by
        by_cases e : j = k
        · subst e; exact ht
        · exact HJ.out j (by omega))
      have i0 : (0 : Int) ≤ (k : Int) := by omega
      have i1 : (k : Int) < (n : Int) := by omega
      have i2 : k ≤ c := by omega
      generalize nameB l[k] = v1 at HNm HNo
      generalize decide (0 ≤ findN (l.take k) l[k]) = v2 at HCo HNo
      generalize l[k] = u at ck HNm HCo
      clear hg hkl hA
      cases v1
      · go_wp2_with (go_at_call 10; (with_reducible refine (HNm.out _ HB.out).mono ?_); rintro e w1 ⟨rfl, h1⟩; have B1 := Lib.hid (below_step HB.out h1); clear h1)
        go_ret
        exact ⟨ret_bool (HFa.out (by rw [HNo.out]; rfl)).symm, B1.out⟩
      · cases v2
        · go_wp2_with (first
            | (go_at_call 10; (with_reducible refine (HNm.out _ HB.out).mono ?_); rintro e w1 ⟨rfl, h1⟩; have B1 := Lib.hid (below_step HB.out h1); clear h1)
            | (go_at_call 65; (with_reducible refine (HCo.out _ B1.out).mono ?_); rintro e w2 ⟨rfl, rfl⟩))
          go_roundw
          case rel => exact ⟨B1.out, k + 1, by omega, by go_num, HTr.out (by rw [HNo.out]; rfl)⟩
          case measure => simp [intOf]; omega
        · go_wp2_with (first
            | (go_at_call 10; (with_reducible refine (HNm.out _ HB.out).mono ?_); rintro e w1 ⟨rfl, h1⟩; have B1 := Lib.hid (below_step HB.out h1); clear h1)
            | (go_at_call 65; (with_reducible refine (HCo.out _ B1.out).mono ?_); rintro e w2 ⟨rfl, rfl⟩))
          go_ret
          exact ⟨ret_bool (HFa.out (by rw [HNo.out]; rfl)).symm, B1.out⟩
    · obtain rfl : k = n := by omega
      have HF : Hid ((List.range l.length).all (nmB l) = true) := Lib.hid (by
        rw [List.all_eq_true]
        intro j hj
        exact HJ.out j (by have := HN.out; simp at hj; omega))
      obtain ⟨w3, hw3⟩ : ∃ w3 : World, w3 = wr := ⟨_, rfl⟩
      subst hw3
      go_wp2
      go_ret
      exact ⟨ret_bool HF.out.symm, HB.out⟩

end Go.Proofs.YtglkmpglpddfdaaGreatDoor
end

section
namespace Go.Proofs.YtglkmpglpddfdaaGreatDoor
open Go.RowKit
set_option linter.unusedVariables false

theorem ArgE.grown {w w' : World} {A : Option Addr} {n k b s m : Nat} {e : TypeId} {v : Value} {xs : List Value} {l : List We} (h : ArgE w A n k l) (ho : w.ownsRow b e s v m xs) (hne : e ≠ 119) (hg : w.grownBy w' v.ownBlock) : ArgE w' A n k l :=
  ⟨h.len, h.row.keep_ (fun g cs _ hh => has_grown hh ho hg hne), h.room, h.most⟩
theorem ArgE.set {w : World} {A : Option Addr} {n k P i : Nat} {u : Value} {cs : Array Value} {l : List We} (h : ArgE w A n k l) (hP : Has w P 75 cs) : ArgE (w.setCell ⟨P, i, none⟩ u) A n k l :=
  ⟨h.len, h.row.keep_ (fun g cs _ hh => hh.away (p := ⟨P, i, none⟩) (hh.apart hP (by decide)) u), h.room, h.most⟩
theorem PKx.app0 {w w' : World} {base P ln en n k : Nat} {vn vu vq vg v' : Value} {A : Option Addr} {l : List We} {c : Cf} {x : List UInt8} (h : PKx w base P vn vu vq vg A n k c ln l en) (ho : w'.ownsRow base 9 1 v' (c.names.length + 1) (c.names.map strV ++ [strV x])) (hg : w.grownBy w' vn.ownBlock) :
    PKx (w'.setCell ⟨P, 0, none⟩ v') base P v' vu vq vg A n k { c with names := c.names ++ [x] } ln l en ∧ Has w' P 75 #[vn, vu, vq, vg, .int .i64 (ln : Int), .slice A n k, .int .i64 (en : Int)] := by
  obtain ⟨h1, h2, h3, h4, h5, h6, h7⟩ := h
  have k1 := has_grown h1 h3 hg (by decide)
  refine ⟨⟨?_, h2, own_store (by simpa using ho) k1 (by decide) _ _, own_store (h4.kept hg (own_sep h4 h3 (by decide))) k1 (by decide) _ _, own_store (h5.kept hg (own_sep h5 h3 (by decide))) k1 (by decide) _ _, own_store (h6.kept hg (own_sep h6 h3 (by decide))) k1 (by decide) _ _, (h7.grown h3 (by decide) hg).set k1⟩, k1⟩
  have := k1.store 0 v'
  simpa using this
theorem PKx.app1 {w w' : World} {base P ln en n k : Nat} {vn vu vq vg v' : Value} {A : Option Addr} {l : List We} {c : Cf} {x : Nat} (h : PKx w base P vn vu vq vg A n k c ln l en) (ho : w'.ownsRow base 37 1 v' (c.up.length + 1) (c.up.map u64V ++ [u64V x])) (hg : w.grownBy w' vu.ownBlock) :
    PKx (w'.setCell ⟨P, 1, none⟩ v') base P vn v' vq vg A n k { c with up := c.up ++ [x] } ln l en ∧ Has w' P 75 #[vn, vu, vq, vg, .int .i64 (ln : Int), .slice A n k, .int .i64 (en : Int)] := by
  obtain ⟨h1, h2, h3, h4, h5, h6, h7⟩ := h
  have k1 := has_grown h1 h4 hg (by decide)
  refine ⟨⟨?_, h2, own_store (h3.kept hg (own_sep h3 h4 (by decide))) k1 (by decide) _ _, own_store (by simpa using ho) k1 (by decide) _ _, own_store (h5.kept hg (own_sep h5 h4 (by decide))) k1 (by decide) _ _, own_store (h6.kept hg (own_sep h6 h4 (by decide))) k1 (by decide) _ _, (h7.grown h4 (by decide) hg).set k1⟩, k1⟩
  have := k1.store 1 v'
  simpa using this
theorem PKx.app2 {w w' : World} {base P ln en n k : Nat} {vn vu vq vg v' : Value} {A : Option Addr} {l : List We} {c : Cf} {x : Int} (h : PKx w base P vn vu vq vg A n k c ln l en) (ho : w'.ownsRow base 3 1 v' (c.quotas.length + 1) (c.quotas.map (Value.int .i64) ++ [.int .i64 x])) (hg : w.grownBy w' vq.ownBlock) :
    PKx (w'.setCell ⟨P, 2, none⟩ v') base P vn vu v' vg A n k { c with quotas := c.quotas ++ [x] } ln l en ∧ Has w' P 75 #[vn, vu, vq, vg, .int .i64 (ln : Int), .slice A n k, .int .i64 (en : Int)] := by
  obtain ⟨h1, h2, h3, h4, h5, h6, h7⟩ := h
  have k1 := has_grown h1 h5 hg (by decide)
  refine ⟨⟨?_, h2, own_store (h3.kept hg (own_sep h3 h5 (by decide))) k1 (by decide) _ _, own_store (h4.kept hg (own_sep h4 h5 (by decide))) k1 (by decide) _ _, own_store (by simpa using ho) k1 (by decide) _ _, own_store (h6.kept hg (own_sep h6 h5 (by decide))) k1 (by decide) _ _, (h7.grown h5 (by decide) hg).set k1⟩, k1⟩
  have := k1.store 2 v'
  simpa using this

def newB (c : Cf) (t : List UInt8) : Bool := nameB t && (decide (findN c.names t < 0) && decide (c.names.length < 64))
set_option maxRecDepth 100000 in
set_option maxHeartbeats 1000000 in
theorem label_nil {base P ln en : Nat} {c : Cf} (w : World) (h : PK w base P c ln [] en) (hb : base ≤ w.heap.size) :
    Calls Tryz.prog 80 #[.pointer (some ⟨P, 0, none⟩)] w (FailEnd ln en base w) := by
  have HT := Lib.hid (take_nil w h hb)
  clear h
  go_enter Tryz.func80, Tryz.ntmps80
  go_wp2_with (go_at_call 79; (with_reducible refine HT.out.mono ?_); rintro e w1 ⟨rfl, h1⟩; have B1 := Lib.hid h1; clear h1)
  exact ⟨rfl, rfl, B1.out⟩
set_option maxRecDepth 100000 in
set_option maxHeartbeats 2000000 in
theorem label_bad {base P ln en : Nat} {c : Cf} {x : We} {l : List We} (w : World) (ht : Base5 w) (h : PK w base P c ln (x :: l) en) (hb : base ≤ w.heap.size) (hbg : ∀ w', Below base w w' → Base5 w') (hn : c.names.length ≤ 64) (hsz : x.1.length ≤ 1000000) (hx : newB c x.1 = false) :
    Calls Tryz.prog 80 #[.pointer (some ⟨P, 0, none⟩)] w (FailEnd ln x.2.1 base w) := by
  have HT := Lib.hid (take_cons w h hb)
  obtain ⟨t, a, b⟩ := x
  simp only at hsz hx
  have HB0 := Lib.hid (fun (w1 : World) (h1 : Below base w w1) {w2 : World} (h2 : Below w1.heap.size w1 w2) => hbg w2 (below_more h1 hb h2))
  have HNm := Lib.hid (fun w1 (h1 : Base5 w1) => coName_any t w1 h1 (by omega))
  have HF := Lib.hid (fun w1 (h1 : PK w1 base P c ln l b) => find_any t a b w1 h1 (by omega))
  have HFl := Lib.hid (fun w1 h4 => fail_any P ln a w1 h4)
  unfold newB at hx
  clear h ht hbg
  cases hv1 : nameB t
  · rw [hv1] at HNm
    clear hx hv1
    go_enter Tryz.func80, Tryz.ntmps80
    go_wp2_with (first | (go_at_call 79; (with_reducible refine HT.out.mono ?_); rintro e w1 ⟨rfl, h1, h2, hg1⟩; have B1 := Lib.hid h2; have bA := Lib.hid ((Below.refl w1.heap.size w1).alloc (Nat.le_refl _) (.cells #[.string ⟨t.toArray⟩, .int .i64 (a : Int), .int .i64 (b : Int)] 119)); have P1 := Lib.hid (h1.below bA.out); obtain ⟨nA, nn, nk, c0, hT0⟩ := pk_names P1.out; have hnn := hT0.len; subst hnn; clear hT0 h1 h2 hg1) | (go_at_call 10; (with_reducible refine (HNm.out _ (HB0.out _ B1.out bA.out)).mono ?_); rintro e w2 ⟨rfl, h2⟩; have hc := box_word h2; have P2 := Lib.hid (P1.out.below h2); have c4 := pk_line P2.out; have B2 := Lib.hid (below_more B1.out hb (below_step bA.out h2)); obtain ⟨q0, q1, q2⟩ := hc; clear h2) | (go_at_call 82; (with_reducible refine (HFl.out _ c4).mono ?_); rintro e w4 ⟨rfl, h4⟩; have B4 := Lib.hid (below_more B2.out hb h4); clear h4))
    exact ⟨rfl, rfl, B4.out⟩
  · rw [hv1] at HNm hx
    rw [Bool.true_and] at hx
    by_cases hv2 : findN c.names t < 0
    · have d2 : decide (0 ≤ findN c.names t) = false := by simp; omega
      have d3 : ((c.names.length : Int) == 64) = true := by simp [hv2] at hx; simp; omega
      generalize findN c.names t = z at HF d2
      clear hx hv1 hv2
      go_enter Tryz.func80, Tryz.ntmps80
      go_wp2_with (first | (go_at_call 79; (with_reducible refine HT.out.mono ?_); rintro e w1 ⟨rfl, h1, h2, hg1⟩; have B1 := Lib.hid h2; have bA := Lib.hid ((Below.refl w1.heap.size w1).alloc (Nat.le_refl _) (.cells #[.string ⟨t.toArray⟩, .int .i64 (a : Int), .int .i64 (b : Int)] 119)); have P1 := Lib.hid (h1.below bA.out); obtain ⟨nA, nn, nk, c0, hT0⟩ := pk_names P1.out; have hnn := hT0.len; subst hnn; clear hT0 h1 h2 hg1) | (go_at_call 10; (with_reducible refine (HNm.out _ (HB0.out _ B1.out bA.out)).mono ?_); rintro e w2 ⟨rfl, h2⟩; have hc := box_word h2; have P2 := Lib.hid (P1.out.below h2); have c4 := pk_line P2.out; have B2 := Lib.hid (below_more B1.out hb (below_step bA.out h2)); obtain ⟨q0, q1, q2⟩ := hc; clear h2) | (go_at_call 116; (with_reducible refine (HF.out _ P2.out).mono ?_); rintro e w3 ⟨rfl, h3⟩; have P3 := Lib.hid (P2.out.below h3); clear c4; have c4 := pk_line P3.out; have B3 := Lib.hid (below_more B2.out hb h3); have q1 := cell_below q1 h3; clear h3) | (go_at_call 82; (with_reducible refine (HFl.out _ c4).mono ?_); rintro e w4 ⟨rfl, h4⟩; have B4 := Lib.hid (below_more B3.out hb h4); clear h4))
      exact ⟨rfl, rfl, B4.out⟩
    · have d2 : decide (0 ≤ findN c.names t) = true := by simp; omega
      generalize findN c.names t = z at HF d2
      clear hx hv1 hv2
      go_enter Tryz.func80, Tryz.ntmps80
      go_wp2_with (first | (go_at_call 79; (with_reducible refine HT.out.mono ?_); rintro e w1 ⟨rfl, h1, h2, hg1⟩; have B1 := Lib.hid h2; have bA := Lib.hid ((Below.refl w1.heap.size w1).alloc (Nat.le_refl _) (.cells #[.string ⟨t.toArray⟩, .int .i64 (a : Int), .int .i64 (b : Int)] 119)); have P1 := Lib.hid (h1.below bA.out); obtain ⟨nA, nn, nk, c0, hT0⟩ := pk_names P1.out; have hnn := hT0.len; subst hnn; clear hT0 h1 h2 hg1) | (go_at_call 10; (with_reducible refine (HNm.out _ (HB0.out _ B1.out bA.out)).mono ?_); rintro e w2 ⟨rfl, h2⟩; have hc := box_word h2; have P2 := Lib.hid (P1.out.below h2); have c4 := pk_line P2.out; have B2 := Lib.hid (below_more B1.out hb (below_step bA.out h2)); obtain ⟨q0, q1, q2⟩ := hc; clear h2) | (go_at_call 116; (with_reducible refine (HF.out _ P2.out).mono ?_); rintro e w3 ⟨rfl, h3⟩; have P3 := Lib.hid (P2.out.below h3); clear c4; have c4 := pk_line P3.out; have B3 := Lib.hid (below_more B2.out hb h3); have q1 := cell_below q1 h3; clear h3) | (go_at_call 82; (with_reducible refine (HFl.out _ c4).mono ?_); rintro e w4 ⟨rfl, h4⟩; have B4 := Lib.hid (below_more B3.out hb h4); clear h4))
      exact ⟨rfl, rfl, B4.out⟩
set_option maxRecDepth 100000 in
set_option maxHeartbeats 2000000 in
theorem label_short {base P ln en : Nat} {c : Cf} {x : We} (w : World) (h : PK w base P c ln [x] en) (hb : base ≤ w.heap.size) (hbg : ∀ w', Below base w w' → Base5 w') (hsz : x.1.length ≤ 1000000) (hx : newB c x.1 = true) :
    Calls Tryz.prog 80 #[.pointer (some ⟨P, 0, none⟩)] w (FailEnd ln x.2.2 base w) := by
  have HT := Lib.hid (take_cons w h hb)
  obtain ⟨t, a, b⟩ := x
  simp only at hsz hx
  have HB0 := Lib.hid (fun (w1 : World) (h1 : Below base w w1) {w2 : World} (h2 : Below w1.heap.size w1 w2) => hbg w2 (below_more h1 hb h2))
  have HNm := Lib.hid (fun w1 (h1 : Base5 w1) => coName_any t w1 h1 (by omega))
  unfold newB at hx
  rw [Bool.and_eq_true, Bool.and_eq_true] at hx
  obtain ⟨hv1, hv2, hv3⟩ := hx
  rw [hv1] at HNm
  have hv2' : findN c.names t < 0 := by simpa using hv2
  have hv3' : c.names.length < 64 := by simpa using hv3
  have d2 : decide (0 ≤ findN c.names t) = false := by simp; omega
  have d3 : ((c.names.length : Int) == 64) = false := by simp; omega
  have HF := Lib.hid (fun w1 (h1 : PK w1 base P c ln [] b) => find_any t a b w1 h1 (by omega))
  have HT2 := Lib.hid (fun w1 (h1 : PK w1 base P c ln [] b) hb1 => take_nil w1 h1 hb1)
  clear h hbg hv1 hv2 hv3 hv3'
  generalize findN c.names t = z at HF d2 hv2'
  clear hv2'
  go_enter Tryz.func80, Tryz.ntmps80
  go_wp2_with (first | (go_at_call 79; (with_reducible refine (HT2.out _ P3.out (Nat.le_trans hb B3.out.size)).mono ?_); rintro e w4 ⟨rfl, h4⟩; have B4 := Lib.hid (B3.out.trans h4); clear h4) | (go_at_call 79; (with_reducible refine HT.out.mono ?_); rintro e w1 ⟨rfl, h1, h2, hg1⟩; have B1 := Lib.hid h2; have bA := Lib.hid ((Below.refl w1.heap.size w1).alloc (Nat.le_refl _) (.cells #[.string ⟨t.toArray⟩, .int .i64 (a : Int), .int .i64 (b : Int)] 119)); have P1 := Lib.hid (h1.below bA.out); obtain ⟨nA, nn, nk, c0, hT0⟩ := pk_names P1.out; have hnn := hT0.len; subst hnn; clear hT0 h1 h2 hg1) | (go_at_call 10; (with_reducible refine (HNm.out _ (HB0.out _ B1.out bA.out)).mono ?_); rintro e w2 ⟨rfl, h2⟩; have hc := box_word h2; have P2 := Lib.hid (P1.out.below h2); have c4 := pk_line P2.out; have B2 := Lib.hid (below_more B1.out hb (below_step bA.out h2)); obtain ⟨q0, q1, q2⟩ := hc; clear h2) | (go_at_call 116; (with_reducible refine (HF.out _ P2.out).mono ?_); rintro e w3 ⟨rfl, h3⟩; have P3 := Lib.hid (P2.out.below h3); clear c4; have c4 := pk_line P3.out; have B3 := Lib.hid (below_more B2.out hb h3); have q1 := cell_below q1 h3; clear h3))
  exact ⟨rfl, rfl, B4.out⟩
set_option maxRecDepth 100000 in
set_option maxHeartbeats 2000000 in
theorem label_quota {base P ln en : Nat} {c : Cf} {x y : We} {l : List We} (w : World) (h : PK w base P c ln (x :: y :: l) en) (hb : base ≤ w.heap.size) (hbg : ∀ w', Below base w w' → Base5 w') (hsz : x.1.length ≤ 1000000) (hsz2 : y.1.length ≤ 1000000) (hx : newB c x.1 = true) (hy : quotaN y.1 < 0) :
    Calls Tryz.prog 80 #[.pointer (some ⟨P, 0, none⟩)] w (FailEnd ln y.2.1 base w) := by
  have HT := Lib.hid (take_cons w h hb)
  obtain ⟨t, a, b⟩ := x
  simp only at hsz hx
  have HB0 := Lib.hid (fun (w1 : World) (h1 : Below base w w1) {w2 : World} (h2 : Below w1.heap.size w1 w2) => hbg w2 (below_more h1 hb h2))
  have HNm := Lib.hid (fun w1 (h1 : Base5 w1) => coName_any t w1 h1 (by omega))
  unfold newB at hx
  rw [Bool.and_eq_true, Bool.and_eq_true] at hx
  obtain ⟨hv1, hv2, hv3⟩ := hx
  rw [hv1] at HNm
  have hv2' : findN c.names t < 0 := by simpa using hv2
  have hv3' : c.names.length < 64 := by simpa using hv3
  have d2 : decide (0 ≤ findN c.names t) = false := by simp; omega
  have d3 : ((c.names.length : Int) == 64) = false := by simp; omega
  have HF := Lib.hid (fun w1 (h1 : PK w1 base P c ln (y :: l) b) => find_any t a b w1 h1 (by omega))
  have HT2 := Lib.hid (fun w1 (h1 : PK w1 base P c ln (y :: l) b) hb1 => take_cons w1 h1 hb1)
  obtain ⟨t2, a2, b2⟩ := y
  simp only at hsz2 hy
  have HQ := Lib.hid (fun w1 (h1 : Base5 w1) => quotaOf_any t2 w1 h1 (by omega))
  have HFl := Lib.hid (fun w1 h4 => fail_any P ln a2 w1 h4)
  have e1 : (if quotaN t2 < 0 then 0 else quotaN t2) = 0 := if_pos hy
  have e2 : decide (0 ≤ quotaN t2) = false := by simp; omega
  unfold QuotaEnd at HQ
  rw [e1, e2] at HQ
  clear h hbg hv1 hv2 hv3 hv3' e1 e2 hy
  generalize findN c.names t = z at HF d2 hv2'
  clear hv2'
  go_enter Tryz.func80, Tryz.ntmps80
  go_wp2_with (first | (go_at_call 79; (with_reducible refine (HT2.out _ P3.out (Nat.le_trans hb B3.out.size)).mono ?_); rintro e w4 ⟨rfl, h4, h5, hg4⟩; have B4 := Lib.hid (B3.out.trans h5); have bA4 := Lib.hid ((Below.refl w4.heap.size w4).alloc (Nat.le_refl _) (.cells #[.string ⟨t2.toArray⟩, .int .i64 (a2 : Int), .int .i64 (b2 : Int)] 119)); have P4 := Lib.hid (h4.below bA4.out); have G4 := Lib.hid hg4; clear h4 h5 hg4) | (go_at_call 79; (with_reducible refine HT.out.mono ?_); rintro e w1 ⟨rfl, h1, h2, hg1⟩; have B1 := Lib.hid h2; have bA := Lib.hid ((Below.refl w1.heap.size w1).alloc (Nat.le_refl _) (.cells #[.string ⟨t.toArray⟩, .int .i64 (a : Int), .int .i64 (b : Int)] 119)); have P1 := Lib.hid (h1.below bA.out); obtain ⟨nA, nn, nk, c0, hT0⟩ := pk_names P1.out; have hnn := hT0.len; subst hnn; clear hT0 h1 h2 hg1) | (go_at_call 10; (with_reducible refine (HNm.out _ (HB0.out _ B1.out bA.out)).mono ?_); rintro e w2 ⟨rfl, h2⟩; have hc := box_word h2; have P2 := Lib.hid (P1.out.below h2); have c4 := pk_line P2.out; have B2 := Lib.hid (below_more B1.out hb (below_step bA.out h2)); obtain ⟨q0, q1, q2⟩ := hc; clear h2) | (go_at_call 116; (with_reducible refine (HF.out _ P2.out).mono ?_); rintro e w3 ⟨rfl, h3⟩; have P3 := Lib.hid (P2.out.below h3); clear c4; have c4 := pk_line P3.out; have B3 := Lib.hid (below_more B2.out hb h3); have q1 := cell_below q1 h3; clear h3) | (go_at_call 117; (with_reducible refine (HQ.out _ (HB0.out _ B4.out bA4.out)).mono ?_); rintro e w5 ⟨rfl, h5⟩; have hc5 := box_word h5; have P5 := Lib.hid (P4.out.below h5); clear c4; have c4 := pk_line P5.out; have B5 := Lib.hid (below_more B4.out hb (below_step bA4.out h5)); obtain ⟨r0, r1, r2⟩ := hc5; clear h5) | (go_at_call 82; (with_reducible refine (HFl.out _ c4).mono ?_); rintro e w6 ⟨rfl, h6⟩; have B6 := Lib.hid (below_more B5.out hb h6); clear h6))
  exact ⟨rfl, rfl, B6.out⟩

end Go.Proofs.YtglkmpglpddfdaaGreatDoor
end
