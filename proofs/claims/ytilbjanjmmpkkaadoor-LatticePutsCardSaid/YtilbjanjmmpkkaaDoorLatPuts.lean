/- The walk of the law LatticePuts. -/
import Derived.Test.YtilbjanjmmpkkaaDoorLatBounds
import Derived.Test.YtilbjanjmmpkkaaDoorLatTells
namespace Go.Proofs.YtilbjanjmmpkkaaDoor
open Go.RowKit
set_option linter.unusedVariables false

/-! What is put is got. -/
theorem foldl_num8 (l : List UInt8) : ∀ x : Nat, l.foldl (fun x c => x * 256 + c.toNat) x = x * 256 ^ l.length + numOf l := by
  unfold numOf
  induction l with
  | nil => intro x; simp
  | cons c l ih =>
    intro x
    simp only [List.foldl_cons]
    rw [ih, ih (0 * 256 + c.toNat), List.length_cons, Nat.pow_succ]
    simp [Nat.add_mul, Nat.mul_assoc, Nat.mul_comm 256, Nat.add_assoc]
theorem numOf_cons8 (c : UInt8) (l : List UInt8) : numOf (c :: l) = c.toNat * 256 ^ l.length + numOf l := by
  have h := foldl_num8 l (0 * 256 + c.toNat)
  unfold numOf at *
  simp only [List.foldl_cons]
  rw [h]
  simp
theorem numOf_numB8 (x n : Nat) : numOf (numB x n) = x % 256 ^ n := by
  induction n with
  | zero => simp [numB, numOf, Nat.mod_one]
  | succ n ih =>
    rw [numB_succ, numOf_cons8, ih, numB_len, Nat.pow_succ, Nat.mod_mul]
    simp
    rw [Nat.mul_comm, Nat.add_comm]
theorem stN_num (x k : Nat) (r : List UInt8) (h1 : 1 ≤ k) (h8 : k ≤ 8) (hx : x < 256 ^ k) : stN (numB x k ++ r) 0 k = (x, r, 0) := by
  have hl := numB_len x k
  have ht : (numB x k ++ r).take k = numB x k := by
    have := List.take_left (l₁ := numB x k) (l₂ := r)
    rwa [hl] at this
  have hd : (numB x k ++ r).drop k = r := by
    have := List.drop_left (l₁ := numB x k) (l₂ := r)
    rwa [hl] at this
  unfold stN
  rw [if_neg (by simp), if_neg (by omega), if_neg (by rw [List.length_append, hl]; omega), Int.toNat_natCast, ht, hd, numOf_numB8, Nat.mod_eq_of_lt hx]
def flat (l : List Nat) : List UInt8 := (l.map fun x => numB x 8).flatten
theorem putB_flat (up : List Nat) : putB up = numB up.length 1 ++ flat up := rfl
theorem takeU_flat (up : List Nat) (t : List UInt8) (hb : ∀ x ∈ up, x < 2 ^ 64) : ∀ k, k ≤ up.length → takeU k (flat up ++ t) 0 = (up.take k, flat (up.drop k) ++ t, 0) := by
  intro k
  induction k with
  | zero => intro _; simp [takeU]
  | succ k ih =>
    intro hk
    have hkl : k < up.length := by omega
    unfold takeU
    rw [ih (by omega)]
    simp only
    have e : up.drop k = up[k] :: up.drop (k + 1) := List.drop_eq_getElem_cons hkl
    have e2 : flat (up.drop k) ++ t = numB up[k] 8 ++ (flat (up.drop (k + 1)) ++ t) := by
      rw [e]
      unfold flat
      rw [List.map_cons, List.flatten_cons, List.append_assoc]
    have hx := hb up[k] (List.getElem_mem hkl)
    have hs := stN_num up[k] 8 (flat (up.drop (k + 1)) ++ t) (by omega) (by omega) (by omega)
    rw [e2]
    have hs' : stN (numB up[k] 8 ++ (flat (up.drop (k + 1)) ++ t)) 0 8 = (up[k], flat (up.drop (k + 1)) ++ t, 0) := hs
    rw [hs', List.take_succ_eq_append_getElem hkl]
theorem getR_back (up : List Nat) (t : List UInt8) (L : IsLat up) (hb : ∀ x ∈ up, x < 2 ^ 64) : getR (putB up ++ t) = if t = [] then (up, 0) else ([], 11) := by
  have h1 := stN_num up.length 1 (flat up ++ t) (by omega) (by omega) (by have := L.1.2; omega)
  have h1' : stN (putB up ++ t) 0 1 = (up.length, flat up ++ t, 0) := by
    rw [putB_flat, List.append_assoc]
    exact h1
  have h2 := takeU_flat up t hb up.length (Nat.le_refl _)
  rw [List.take_length, List.drop_length] at h2
  unfold getR
  rw [h1']
  simp only
  rw [h2]
  simp only [checkB_yes L, true_and, ne_eq, not_true, if_false]
  cases t <;> simp [flat]
theorem getR_less (up : List Nat) (L : IsLat up) (hb : ∀ x ∈ up, x < 2 ^ 64) : getR ((putB up).take (8 * up.length)) = ([], 10) := by
  obtain ⟨us, z, hz⟩ : ∃ us z, up = us ++ [z] := by
    have h := L.1.1
    exact ⟨up.dropLast, up.getLast (by intro e; rw [e] at h; simp at h), (List.dropLast_concat_getLast _).symm⟩
  have hul : up.length = us.length + 1 := by rw [hz]; simp
  have hbu : ∀ x ∈ us, x < 2 ^ 64 := fun x hx => hb x (by rw [hz]; simp [hx])
  have e1 : (putB up).take (8 * up.length) = numB up.length 1 ++ (flat us ++ (numB z 8).take 7) := by
    have hf : flat up = flat us ++ numB z 8 := by rw [hz]; simp [flat]
    have hfl : (flat us).length = 8 * us.length := flat_len us
    rw [putB_flat, hf, List.take_append, numB_len, List.take_of_length_le (by rw [numB_len]; omega), List.take_append, hfl, List.take_of_length_le (by omega)]
    rw [show 8 * up.length - 1 - 8 * us.length = 7 by omega]
  have h1 := stN_num up.length 1 (flat us ++ (numB z 8).take 7) (by omega) (by omega) (by have := L.1.2; omega)
  have h1' : stN ((putB up).take (8 * up.length)) 0 1 = (up.length, flat us ++ (numB z 8).take 7, 0) := by
    rw [e1]
    exact h1
  have h2 := takeU_flat us ((numB z 8).take 7) hbu us.length (Nat.le_refl _)
  rw [List.take_length, List.drop_length] at h2
  have h3 : stN (flat [] ++ (numB z 8).take 7) 0 8 = (0, flat [] ++ (numB z 8).take 7, 10) := by
    unfold stN
    have : (flat [] ++ (numB z 8).take 7).length = 7 := by simp [flat, numB_len]
    rw [if_neg (by simp), if_neg (by omega), if_pos (by rw [this]; decide)]
  unfold getR
  rw [h1']
  simp only
  rw [hul]
  unfold takeU
  rw [h2]
  simp only
  rw [h3]
  simp

/-- Put of a lattice, its length told. -/
def PutN (up : List Nat) (n : Nat) (w : World) (e : Ending) (w' : World) : Prop :=
  ∃ A c, e = .returned (.tuple #[.slice A (8 * n + 1) c, .int .i64 0]) ∧ 8 * n + 1 ≤ c ∧ c ≤ maxLen ∧ Row w' 5 w.heap.size A ((putB up).map byteV) ∧ Below w.heap.size w w'
def GetYes (up : List Nat) (w : World) (e : Ending) (w' : World) : Prop := ∃ A n c, e = .returned (.tuple #[.slice A n c, .int .i64 0]) ∧ ArgU w' A n c up ∧ Below w.heap.size w w'
def GetNo (er : Int) (w : World) (e : Ending) (w' : World) : Prop := ∃ A n c, e = .returned (.tuple #[.slice A n c, .int .i64 er]) ∧ Below w.heap.size w w'

set_option maxRecDepth 100000 in
set_option maxHeartbeats 4000000 in
theorem walkLatPuts (A : Option Addr) (n c : Nat) (up : List Nat) (x : UInt8) (w : World) (ht : Base3 w) (h : ArgU w A n c up) :
    Calls Tryd.prog 8 #[.slice A n c, .int .u8 x.toNat] w fun e w' => e = .returned (.bool true) ∧ Below w.heap.size w w' := by
  have HT := Lib.hid ht
  have HA := Lib.hid h
  have HN := Lib.hid h.len
  clear ht h
  by_cases hg : 8 < n
  · have e1 : decide (8 < (n : Int)) = true := by simp; omega
    go_enter Tryd.func8, Tryd.ntmps8
    go_wp2_with (go_at_call 9; refine (awake03_any _ HT.out).mono ?_; rintro e w0 ⟨rfl, h0⟩; have B0 := Lib.hid h0; clear h0)
    go_ret
    exact ⟨rfl, B0.out⟩
  · have e1 : decide (8 < (n : Int)) = false := by simp; omega
    have HC := Lib.hid (fun w1 (h1 : Below w.heap.size w w1) => laCheck_any up A n c w1 (HT.out.below h1) (HA.out.below h1) (by omega))
    cases hc : checkB up
    · rw [hc] at HC
      clear hc
      go_enter Tryd.func8, Tryd.ntmps8
      go_wp2_with (first
        | (go_at_call 9; refine (awake03_any _ HT.out).mono ?_; rintro e w0 ⟨rfl, h0⟩; have B0 := Lib.hid h0; clear h0)
        | (go_at_call 18; refine (HC.out _ B0.out).mono ?_; rintro e w1 ⟨rfl, h1⟩; have B1 := Lib.hid (below_step B0.out h1); clear h1))
      go_ret
      exact ⟨rfl, B1.out⟩
    · rw [hc] at HC
      have L := Lib.hid (checkB_iff.1 hc)
      have hn1 : 1 ≤ n := by have := L.out.1.1; have := HN.out; omega
      have hpl : (putB up).length = 8 * n + 1 := by rw [putB_len, HN.out]
      have HPL := Lib.hid hpl
      have HP := Lib.hid (fun w1 (h1 : Below w.heap.size w w1) => show Calls Tryd.prog 23 #[.slice A n c] w1 (PutN up n w1) by
        have := laPut_any up A n c w1 (HT.out.below h1) (HA.out.below h1) (by omega)
        have e : putR up = (putB up, 0) := by unfold putR; rw [hc]; rfl
        rw [e] at this
        refine this.mono fun e w' ⟨A', c', he, k1, k2, k3, k4⟩ => ?_
        simp only [hpl] at he k1
        exact ⟨A', c', he, k1, k2, k3, k4⟩)
      have HG1 := Lib.hid (fun w1 (h1 : Below w.heap.size w w1) (A1 : Option Addr) (c1 : Nat) (hcc : 8 * n + 1 ≤ c1) (hr : Reads w1 A1 ((putB up).map byteV)) => show Calls Tryd.prog 25 #[.slice A1 (8 * n + 1) c1] w1 (GetYes up w1) by
        have := laGet_any (putB up) A1 (8 * n + 1) c1 w1 (HT.out.below h1) hpl.symm hcc (by omega) hr
        have e := getR_back up [] L.out HA.out.big
        rw [List.append_nil, if_pos rfl] at e
        rw [e] at this
        exact this)
      have HG2 := Lib.hid (fun w1 (h1 : Below w.heap.size w w1) (A1 : Option Addr) (c1 : Nat) (hcc : 8 * n + 1 ≤ c1) (hr : Reads w1 A1 ((putB up).map byteV)) => show Calls Tryd.prog 25 #[.slice A1 (8 * n) c1] w1 (GetNo 10 w1) by
        have := laGet_any ((putB up).take (8 * n)) A1 (8 * n) c1 w1 (HT.out.below h1) (by rw [List.length_take]; omega) (by omega) (by rw [List.length_take]; omega) (by rw [List.map_take]; exact hr.take _)
        have e := getR_less up L.out HA.out.big
        rw [← HN.out] at e
        rw [e] at this
        exact this.mono fun e w' ⟨A', n', c', he, _, k⟩ => ⟨A', n', c', he, k⟩)
      have HG3 := Lib.hid (fun w1 (h1 : Below w.heap.size w w1) (A1 : Option Addr) (c1 : Nat) (hcc : 8 * n + 1 + 1 ≤ c1) (hr : Reads w1 A1 ((putB up ++ [x]).map byteV)) => show Calls Tryd.prog 25 #[.slice A1 (8 * n + 1 + 1) c1] w1 (GetNo 11 w1) by
        have := laGet_any (putB up ++ [x]) A1 (8 * n + 1 + 1) c1 w1 (HT.out.below h1) (by rw [List.length_append, hpl]; rfl) hcc (by rw [List.length_append]; simp; omega) hr
        have e := getR_back up [x] L.out HA.out.big
        rw [if_neg (by simp)] at e
        rw [e] at this
        exact this.mono fun e w' ⟨A', n', c', he, _, k⟩ => ⟨A', n', c', he, k⟩)
      clear hc hpl
      obtain ⟨i0, hi, hz0, hz1, hz2⟩ := info_parts u8info
      go_enter Tryd.func8, Tryd.ntmps8
      go_wp2_with (first
        | (go_at_call 9; refine (awake03_any _ HT.out).mono ?_; rintro e w0 ⟨rfl, h0⟩; have B0 := Lib.hid h0; clear h0)
        | (go_at_call 18; refine (HC.out _ B0.out).mono ?_; rintro e w1 ⟨rfl, h1⟩; have B1 := Lib.hid (below_step B0.out h1); clear h1)
        | (go_at_call 23; refine (HP.out _ B1.out).mono ?_; rintro e w2 ⟨A2, c2, rfl, k1, k2, r2, h1⟩; have R2 := Lib.hid r2; have B2 := Lib.hid (below_step B1.out h1); unfold maxLen at k2; clear h1 r2)
        | (go_at_call 25; (with_reducible refine (HG1.out w2 B2.out A2 c2 k1 R2.out.reads).mono ?_); rintro e w3 ⟨A3, n3, c3, rfl, u3, h1⟩; have R3 := Lib.hid (R2.out.below h1); have U3 := Lib.hid u3; have B3 := Lib.hid (below_step B2.out h1); clear h1 u3)
        | (go_at_call 25; (with_reducible refine (HG2.out w3 B3.out A2 c2 k1 R3.out.reads).mono ?_); rintro e w4 ⟨A4, n4, c4, rfl, h1⟩; have R4 := Lib.hid (R3.out.below h1); have U4 := Lib.hid (U3.out.below h1); have B4 := Lib.hid (below_step B3.out h1); clear h1)
        | (at_builtin; refine wpList_append_bytes rfl _ _ 31 rfl w4.heap.size 5 i0 Tryd.underlying31 hi hz0 hz1 hz2 _ 0 [] rfl (World.ownsRow_nil _ _ _ _) A2 (8 * n + 1) c2 (putB up) rfl HPL.out.symm (fun h => absurd h (R4.out.some_ (by rw [List.length_map, HPL.out]; omega))) R4.out.reads (by omega) (Nat.le_refl _) ?_; intro v5 w5 h3 h4; rw [Nat.zero_add, List.nil_append] at h3; have O5 := Lib.hid h3; have G5 := Lib.hid ((Below.refl w4.heap.size w4).grown h4 (Nat.le_refl _) (fun k e => by cases e)); have B5 := Lib.hid (below_step B4.out G5.out); have U5 := Lib.hid (U4.out.below G5.out); clear h3 h4)
        | (at_builtin; refine wpList_append_own _ rfl _ _ 31 rfl w4.heap.size 5 i0 (.int .u8 0) 1 1 Tryd.underlying31 hi hz0 hz1 hz2 rfl (by decide) _ (8 * n + 1) _ rfl (O5.out.alloc _) ⟨w5.heap.size, 0, none⟩ 1 1 [.int .u8 (x.toNat : Int)] rfl rfl ?_ ?_ ?_ ?_ ?_ ?_; (exact cell_one_new _ _ _); (intro u hu; simp at hu; subst hu; rfl); (unfold maxLen; omega); (omega); (have hq := G5.out.size; simp; omega); intro v6 w6 h7 h8 h9; have h10 := below_own (G5.out.alloc G5.out.size (.cells #[.int .u8 (x.toNat : Int)] 5)) h8 (O5.out.alloc (.cells #[.int .u8 (x.toNat : Int)] 5)) (by have := G5.out.size; simp; omega); rw [show [Value.int .u8 (x.toNat : Int)] = [x].map byteV from rfl, ← List.map_append] at h7; obtain ⟨A6, c6, rfl, k3, k4⟩ := own_slice h7; have R6 := Lib.hid (Row.of_own h7); have B6 := Lib.hid (below_step B4.out h10); have U6 := Lib.hid (U4.out.below h10); clear h7 h8 h9 h10)
        | (go_at_call 25; (with_reducible refine (HG3.out w6 B6.out A6 c6 k3 R6.out.reads).mono ?_); rintro e w7 ⟨A7, n7, c7, rfl, h1⟩; have U7 := Lib.hid (U6.out.below h1); have B7 := Lib.hid (below_step B6.out h1); clear h1)
        | (go_at_call 20; refine (same_yes U7.out (HA.out.below B7.out) (by have := L.out.1.2; omega)).mono ?_; rintro e w8 ⟨rfl, h1⟩; have B8 := Lib.hid (below_step B7.out h1); clear h1))
      go_ret
      exact ⟨rfl, B8.out⟩

end Go.Proofs.YtilbjanjmmpkkaaDoor
