import Derived.Test.YthcjledpjlpfaaaDoorJ13
import Derived.Test.YthcjledpjlpfaaaDoorJFlo
import Derived.Test.YthcjledpjlpfaaaDoorJ11
/- Of a claim's texts, joined: Flu. No statement but in the last. -/
namespace Go.Proofs.YthcjledpjlpfaaaDoor
open Go.RowKit
set_option linter.unusedVariables false

def rPgL (l a : List Int) (k : Nat) : List UInt8 := cPage 4 [numB (u64N9 (a.getD (k + 1) 0)) 2 ++ numsB (partI l k)]
theorem rPgL_ok {l a : List Int} (h : okA l a) (k : Nat) : rPgL l a k = pageL l a k := by
  unfold rPgL pageL cellL
  obtain ⟨y, hy, hy9⟩ := okA_next h k
  rw [hy, u64s9 (by omega) (by omega)]
def RPutEndL (l a : List Int) (w : World) (e : Ending) (w' : World) : Prop :=
  ∃ A n c, e = .returned (.tuple #[.slice A n c, .int .i64 (putL l a).2]) ∧ TxtA w' A n (putL l a).1 ∧ Below w.heap.size w w'
theorem RPutEndL.no {l a : List Int} {w w' : World} (hg : ¬ goodL l a) (hb : Below w.heap.size w w') : RPutEndL l a w (.returned (.tuple #[.slice none 0 0, .int .i64 1])) w' := by
  have hp : putL l a = ([], 1) := by unfold putL; rw [if_neg hg]
  unfold RPutEndL
  rw [hp]
  exact ⟨none, 0, 0, rfl, ⟨rfl, Reads.empty⟩, hb⟩
theorem r11Put_no (l a : List Int) (A : Option Addr) (n c : Nat) (B : Option Addr) (m d : Nat) (w : World) (h : Ints6 w A n l) (hB : Ints6 w B m a) (hn : n ≤ 1000000) (hg : ¬ (okL l ∧ needL n ≤ m)) :
    Calls Tryd.prog 10 #[.slice A n c, .slice B m d] w (RPutEndL l a w) := by
  have HR : Hid (∀ w', Below w.heap.size w w' → RPutEndL l a w (.returned (.tuple #[.slice none 0 0, .int .i64 1])) w') := Lib.hid (fun w' hb => RPutEndL.no (fun hx => hg ⟨hx.1, by rw [h.len, hB.len]; exact hx.2.1⟩) hb)
  have HI := Lib.hid (r11listed_any A n c l w h hn)
  have HN := Lib.hid (fun w1 => r11Need_any (n : Int) (by omega) w1)
  by_cases hl : okL l
  · rw [decide_eq_true hl] at HI
    have hnn : ¬ needL n ≤ m := fun hx => hg ⟨hl, hx⟩
    obtain ⟨z, hz⟩ : ∃ z, needL (n : Int) = z := ⟨_, rfl⟩
    rw [hz] at HN hnn
    have hnI : (m : Int) < (z : Int) := by omega
    clear hg hl h hB hnn hz
    go_enter Tryd.func10, Tryd.ntmps10
    go_wp2_with (first
      | (go_at_call 27; (with_reducible refine HI.out.mono ?_); rintro e w1 ⟨rfl, b1⟩; have B1 := Lib.hid b1; clear b1)
      | (go_at_call 12; (with_reducible refine (HN.out _).mono ?_); rintro e w2 ⟨rfl, rfl⟩))
    go_ret2
    exact HR.out _ B1.out
  · rw [decide_eq_false hl] at HI
    clear hg hl h hB HN
    go_enter Tryd.func10, Tryd.ntmps10
    go_wp2_with (go_at_call 27; (with_reducible refine HI.out.mono ?_); rintro e w1 ⟨rfl, b1⟩; have B1 := Lib.hid b1; clear b1)
    go_ret2
    exact HR.out _ B1.out
set_option maxRecDepth 100000 in
set_option maxHeartbeats 8000000 in
theorem r11Put_yes (l a : List Int) (A : Option Addr) (n c : Nat) (B : Option Addr) (m d : Nat) (w : World) (h : Ints6 w A n l) (hB : Ints6 w B m a) (hn : n ≤ 10000) (hm : m ≤ 10000) (hd : m ≤ d) (hdm : d ≤ maxLen) (hl : okL l) (hnm : needL n ≤ m) :
    Calls Tryd.prog 10 #[.slice A n c, .slice B m d] w (RPutEndL l a w) := by
  have hmx : Tryd.prog.follows .mixedOrders = true := by kernel_rfl
  obtain ⟨j0, hj, jz0, jz1, jz2⟩ := info_parts stinfo
  have HI := Lib.hid (r11listed_any A n c l w h (by omega))
  rw [decide_eq_true hl] at HI
  have HN := Lib.hid (fun w1 => r11Need_any (n : Int) (by omega) w1)
  have HNM := Lib.hid hnm
  obtain ⟨z, hz⟩ : ∃ z, needL (n : Int) = z := ⟨_, rfl⟩
  rw [hz] at HN hnm
  have hnI : ¬ (m : Int) < (z : Int) := by omega
  have HZ : Hid (¬ m < z) := Lib.hid (by omega)
  have HL := Lib.hid hl
  have HMEM := Lib.hid (fun x (hx : x ∈ l) => okL_mem hl hx)
  have HLA := Lib.hid h
  have HLL := Lib.hid h.len
  have HA := Lib.hid hB
  have HLN := Lib.hid hB.len
  have hdI : d ≤ 9223372036854775807 := by unfold maxLen at hdm; omega
  clear h hB hl hnm hz
  go_enter Tryd.func10, Tryd.ntmps10
  go_wp2_with (first
    | (go_at_call 27; (with_reducible refine HI.out.mono ?_); rintro e w1 ⟨rfl, b1⟩; have B1 := Lib.hid b1; clear b1)
    | (go_at_call 12; (with_reducible refine (HN.out _).mono ?_); rintro e w2 ⟨rfl, rfl⟩))
  simp only [decide_eq_false HZ.out]
  go_loopw [7, 8] (fun v i wr => ∃ k : Nat, k ≤ m ∧ i = .int .i64 (k : Int) ∧ okATo l a k ∧ wr.ownsRow w.heap.size 9 1 v k (((List.range k).map (rPgL l a)).map cstV) ∧ Below w.heap.size w wr) (fun _ i _ => m - (intOf i).toNat)
  case atStart => exact ⟨0, Nat.zero_le _, rfl, fun j hj => absurd hj (by omega), st_own_nil _ _, B1.out⟩
  case round =>
    obtain ⟨k, hk, rfl, hok, ho, hb⟩ := hrel
    have HOK := Lib.hid hok
    have HO := Lib.hid ho
    have HB := Lib.hid hb
    clear hok ho hb B1 HI HN
    by_cases hlt : k < m
    · have hkl : k < a.length := by rw [← HLN.out]; exact hlt
      have hAr := HA.out.below9 HB.out
      obtain ⟨g, off, rfl, hrd⟩ := hAr.at_ (List.getElem?_eq_getElem hkl)
      have HXD : Hid (a.getD k 0 = a[k]) := Lib.hid (by rw [List.getD_eq_getElem?_getD, List.getElem?_eq_getElem hkl]; rfl)
      have HYC : Hid (k + 1 < m → ∀ y, a.getD (k + 1) 0 = y → wr.cell? ⟨g, off + (k + 1), none⟩ = some (.int .i64 y)) := Lib.hid (fun hk1 y hy => by
        have hkl1 : k + 1 < a.length := by rw [← HLN.out]; exact hk1
        rw [hAr.cell6 (List.getElem?_eq_getElem hkl1), ← hy, List.getD_eq_getElem?_getD, List.getElem?_eq_getElem hkl1]
        rfl)
      have HY0 : Hid (¬ k + 1 < m → ∀ y, a.getD (k + 1) 0 = y → y = 0) := Lib.hid (fun hk1 y hy => by
        rw [← hy, List.getD_eq_getElem?_getD, List.getElem?_eq_none (by rw [← HLN.out]; omega)]
        rfl)
      have HHA := Lib.hid (fun w1 (hb1 : Below wr.heap.size wr w1) => r11has_any (some ⟨g, off, none⟩) k d (a.take k) a[k] w1 ((hAr.below9 hb1).take hk) (by omega))
      have HHL := Lib.hid (fun w1 (hb1 : Below wr.heap.size wr w1) => r11has_any A n c l a[k] w1 ((HLA.out.below9 HB.out).below9 hb1) (by omega))
      have HNO : Hid ((¬ (pgOk (a.getD k 0) = true ∧ a.getD k 0 ∉ l ++ a.take k)) → RPutEndL l a w (.returned (.tuple #[.slice none 0 0, .int .i64 1])) wr.drew) := Lib.hid (fun hx => RPutEndL.no (fun hg => hx (hg.2.2 k hkl)) HB.out.drew)
      rw [HXD.out] at HNO
      generalize a[k] = x at hrd HXD HHA HHL HNO
      have hSd : (fun w' : World => w'.cell? ⟨g, off + k, none⟩ = some (.int .i64 x) ∧ Below wr.heap.size wr w') wr.drew := ⟨hrd, (Below.refl _ wr).drew⟩
      have i0 : (0 : Int) ≤ (k : Int) := by omega
      have i1 : (k : Int) < (m : Int) := by omega
      have hkc : k ≤ d := by omega
      have hkcI : (k : Int) ≤ (d : Int) := by omega
      clear hAr hkl
      by_cases hx1 : x < 2
      · have HBAD : Hid (¬ (pgOk x = true ∧ x ∉ l ++ a.take k)) := Lib.hid (fun h => by have := pgOk_iff.1 h.1; omega)
        go_wp2
        rename_i K hK
        refine wp_held (fun w' : World => w'.cell? ⟨g, off + k, none⟩ = some (.int .i64 x) ∧ Below wr.heap.size wr w') K hmx ?_ (fun _ _ h => h)
        refine wpAnyH_take (i := 0) (v := .slice (some ⟨g, off, none⟩) m d) (lit rfl) (by kernel_rfl) (by kernel_rfl) (by kernel_rfl) (fun _ _ _ h => h) (Or.inl ⟨by rfl, ?_⟩) hSd ?_
        · rintro w6 ⟨k1, k2⟩
          go_simp
        simp only [Act.put, List.setIfInBounds_toArray, List.set_cons_zero, List.set_cons_succ]
        refine wpAnyH_take (i := 1) (v := .int .i64 (k : Int)) (lit rfl) (by kernel_rfl) (by kernel_rfl) (by kernel_rfl) (fun _ _ _ h => h) (Or.inl ⟨by rfl, ?_⟩) hSd ?_
        · rintro w6 ⟨k1, k2⟩
          go_simp
        simp only [Act.put, List.setIfInBounds_toArray, List.set_cons_zero, List.set_cons_succ]
        refine wpAnyH_take (i := 2) (v := .pointer (some ⟨g, off + k, none⟩)) (lit rfl) (by kernel_rfl) (by kernel_rfl) (by kernel_rfl) (fun _ _ _ h => h) (Or.inl ⟨by rfl, ?_⟩) hSd ?_
        · rintro w6 ⟨k1, k2⟩
          go_simp
        simp only [Act.put, List.setIfInBounds_toArray, List.set_cons_zero, List.set_cons_succ]
        refine wpAnyH_take (i := 3) (v := .int .i64 x) (lit rfl) (by kernel_rfl) (by kernel_rfl) (by kernel_rfl) (fun _ _ _ h => h) (Or.inl ⟨by rfl, ?_⟩) hSd ?_
        · rintro w6 ⟨k1, k2⟩
          go_simp
        simp only [Act.put, List.setIfInBounds_toArray, List.set_cons_zero, List.set_cons_succ]
        refine wpAnyH_take (i := 4) (v := .bool true) (lit rfl) (by kernel_rfl) (by kernel_rfl) (by kernel_rfl) (fun _ _ _ h => h) (Or.inl ⟨by rfl, ?_⟩) hSd ?_
        · rintro w6 ⟨k1, k2⟩
          go_simp
        simp only [Act.put, List.setIfInBounds_toArray, List.set_cons_zero, List.set_cons_succ]
        refine wpAnyH_take (i := 5) (v := .bool true) (lit rfl) (by kernel_rfl) (by kernel_rfl) (by kernel_rfl) (fun _ _ _ h => h) (Or.inl ⟨by rfl, ?_⟩) hSd ?_
        · rintro w6 ⟨k1, k2⟩
          go_simp
        simp only [Act.put, List.setIfInBounds_toArray, List.set_cons_zero, List.set_cons_succ]
        refine wpAnyH_take (i := 6) (v := undef) (lit rfl) (by kernel_rfl) (by kernel_rfl) (by kernel_rfl) (fun _ _ _ h => h) (Or.inr ⟨by rfl, rfl⟩) hSd ?_
        simp only [Act.put, List.setIfInBounds_toArray, List.set_cons_zero, List.set_cons_succ]
        refine wpAnyH_take (i := 7) (v := undef) (lit rfl) (by kernel_rfl) (by kernel_rfl) (by kernel_rfl) (fun _ _ _ h => h) (Or.inr ⟨by rfl, rfl⟩) hSd ?_
        simp only [Act.put, List.setIfInBounds_toArray, List.set_cons_zero, List.set_cons_succ]
        refine wpAnyH_take (i := 8) (v := undef) (lit rfl) (by kernel_rfl) (by kernel_rfl) (by kernel_rfl) (fun _ _ _ h => h) (Or.inr ⟨by rfl, rfl⟩) hSd ?_
        simp only [Act.put, List.setIfInBounds_toArray, List.set_cons_zero, List.set_cons_succ]
        refine wpAnyH_take (i := 9) (v := undef) (lit rfl) (by kernel_rfl) (by kernel_rfl) (by kernel_rfl) (fun _ _ _ h => h) (Or.inr ⟨by rfl, rfl⟩) hSd ?_
        simp only [Act.put, List.setIfInBounds_toArray, List.set_cons_zero, List.set_cons_succ]
        refine wpAnyH_take (i := 10) (v := undef) (lit rfl) (by kernel_rfl) (by kernel_rfl) (by kernel_rfl) (fun _ _ _ h => h) (Or.inr ⟨by rfl, rfl⟩) hSd ?_
        simp only [Act.put, List.setIfInBounds_toArray, List.set_cons_zero, List.set_cons_succ]
        refine wpAnyH_take (i := 11) (v := .bool true) (lit rfl) (by kernel_rfl) (by kernel_rfl) (by kernel_rfl) (fun _ _ _ h => h) (Or.inl ⟨by rfl, ?_⟩) hSd ?_
        · rintro w6 ⟨k1, k2⟩
          go_simp
        simp only [Act.put, List.setIfInBounds_toArray, List.set_cons_zero, List.set_cons_succ]
        refine wpAnyH_take (i := 12) (v := .bool true) (lit rfl) (by kernel_rfl) (by kernel_rfl) (by kernel_rfl) (fun _ _ _ h => h) (Or.inl ⟨by rfl, ?_⟩) hSd ?_
        · rintro w6 ⟨k1, k2⟩
          go_simp
        simp only [Act.put, List.setIfInBounds_toArray, List.set_cons_zero, List.set_cons_succ]
        refine wpAnyH_take (i := 13) (v := undef) (lit rfl) (by kernel_rfl) (by kernel_rfl) (by kernel_rfl) (fun _ _ _ h => h) (Or.inr ⟨by rfl, rfl⟩) hSd ?_
        simp only [Act.put, List.setIfInBounds_toArray, List.set_cons_zero, List.set_cons_succ]
        refine wpAnyH_take (i := 14) (v := undef) (lit rfl) (by kernel_rfl) (by kernel_rfl) (by kernel_rfl) (fun _ _ _ h => h) (Or.inr ⟨by rfl, rfl⟩) hSd ?_
        simp only [Act.put, List.setIfInBounds_toArray, List.set_cons_zero, List.set_cons_succ]
        refine wpAnyH_take (i := 15) (v := undef) (lit rfl) (by kernel_rfl) (by kernel_rfl) (by kernel_rfl) (fun _ _ _ h => h) (Or.inr ⟨by rfl, rfl⟩) hSd ?_
        simp only [Act.put, List.setIfInBounds_toArray, List.set_cons_zero, List.set_cons_succ]
        refine wpAnyH_take (i := 16) (v := undef) (lit rfl) (by kernel_rfl) (by kernel_rfl) (by kernel_rfl) (fun _ _ _ h => h) (Or.inr ⟨by rfl, rfl⟩) hSd ?_
        simp only [Act.put, List.setIfInBounds_toArray, List.set_cons_zero, List.set_cons_succ]
        refine wpAnyH_take (i := 17) (v := undef) (lit rfl) (by kernel_rfl) (by kernel_rfl) (by kernel_rfl) (fun _ _ _ h => h) (Or.inr ⟨by rfl, rfl⟩) hSd ?_
        simp only [Act.put, List.setIfInBounds_toArray, List.set_cons_zero, List.set_cons_succ]
        refine wpAnyH_take (i := 18) (v := undef) (lit rfl) (by kernel_rfl) (by kernel_rfl) (by kernel_rfl) (fun _ _ _ h => h) (Or.inr ⟨by rfl, rfl⟩) hSd ?_
        simp only [Act.put, List.setIfInBounds_toArray, List.set_cons_zero, List.set_cons_succ]
        refine wpAnyH_take (i := 19) (v := undef) (lit rfl) (by kernel_rfl) (by kernel_rfl) (by kernel_rfl) (fun _ _ _ h => h) (Or.inr ⟨by rfl, rfl⟩) hSd ?_
        simp only [Act.put, List.setIfInBounds_toArray, List.set_cons_zero, List.set_cons_succ]
        refine wpAnyH_take (i := 20) (v := undef) (lit rfl) (by kernel_rfl) (by kernel_rfl) (by kernel_rfl) (fun _ _ _ h => h) (Or.inr ⟨by rfl, rfl⟩) hSd ?_
        simp only [Act.put, List.setIfInBounds_toArray, List.set_cons_zero, List.set_cons_succ]
        refine wpAnyH_take (i := 21) (v := .bool true) (lit rfl) (by kernel_rfl) (by kernel_rfl) (by kernel_rfl) (fun _ _ _ h => h) (Or.inl ⟨by rfl, ?_⟩) hSd ?_
        · rintro w6 ⟨k1, k2⟩
          go_simp
        simp only [Act.put, List.setIfInBounds_toArray, List.set_cons_zero, List.set_cons_succ]
        refine wpAnyH_take (i := 22) (v := .bool true) (lit rfl) (by kernel_rfl) (by kernel_rfl) (by kernel_rfl) (fun _ _ _ h => h) (Or.inl ⟨by rfl, ?_⟩) hSd ?_
        · rintro w6 ⟨k1, k2⟩
          go_simp
        simp only [Act.put, List.setIfInBounds_toArray, List.set_cons_zero, List.set_cons_succ]
        refine wpAnyH_take (i := 23) (v := undef) (lit rfl) (by kernel_rfl) (by kernel_rfl) (by kernel_rfl) (fun _ _ _ h => h) (Or.inr ⟨by rfl, rfl⟩) hSd ?_
        simp only [Act.put, List.setIfInBounds_toArray, List.set_cons_zero, List.set_cons_succ]
        refine wpAnyH_take (i := 24) (v := undef) (lit rfl) (by kernel_rfl) (by kernel_rfl) (by kernel_rfl) (fun _ _ _ h => h) (Or.inr ⟨by rfl, rfl⟩) hSd ?_
        simp only [Act.put, List.setIfInBounds_toArray, List.set_cons_zero, List.set_cons_succ]
        refine wpAnyH_take (i := 25) (v := undef) (lit rfl) (by kernel_rfl) (by kernel_rfl) (by kernel_rfl) (fun _ _ _ h => h) (Or.inr ⟨by rfl, rfl⟩) hSd ?_
        simp only [Act.put, List.setIfInBounds_toArray, List.set_cons_zero, List.set_cons_succ]
        refine wpAnyH_take (i := 26) (v := undef) (lit rfl) (by kernel_rfl) (by kernel_rfl) (by kernel_rfl) (fun _ _ _ h => h) (Or.inr ⟨by rfl, rfl⟩) hSd ?_
        simp only [Act.put, List.setIfInBounds_toArray, List.set_cons_zero, List.set_cons_succ]
        refine wpAnyH_take (i := 27) (v := undef) (lit rfl) (by kernel_rfl) (by kernel_rfl) (by kernel_rfl) (fun _ _ _ h => h) (Or.inr ⟨by rfl, rfl⟩) hSd ?_
        simp only [Act.put, List.setIfInBounds_toArray, List.set_cons_zero, List.set_cons_succ]
        refine wpAnyH_take (i := 28) (v := undef) (lit rfl) (by kernel_rfl) (by kernel_rfl) (by kernel_rfl) (fun _ _ _ h => h) (Or.inr ⟨by rfl, rfl⟩) hSd ?_
        simp only [Act.put, List.setIfInBounds_toArray, List.set_cons_zero, List.set_cons_succ]
        refine wpAnyH_take (i := 29) (v := .bool true) (lit rfl) (by kernel_rfl) (by kernel_rfl) (by kernel_rfl) (fun _ _ _ h => h) (Or.inl ⟨by rfl, ?_⟩) hSd ?_
        · rintro w6 ⟨k1, k2⟩
          go_simp
        simp only [Act.put, List.setIfInBounds_toArray, List.set_cons_zero, List.set_cons_succ]
        refine wpAnyH_done (by kernel_rfl) ?_ _
        refine hK _ _ ?_
        go_wp2
        go_ret2
        exact HNO.out HBAD.out
      · by_cases hx2 : 999 < x
        · have HBAD : Hid (¬ (pgOk x = true ∧ x ∉ l ++ a.take k)) := Lib.hid (fun h => by have := pgOk_iff.1 h.1; omega)
          go_wp2
          rename_i K hK
          refine wp_held (fun w' : World => w'.cell? ⟨g, off + k, none⟩ = some (.int .i64 x) ∧ Below wr.heap.size wr w') K hmx ?_ (fun _ _ h => h)
          refine wpAnyH_take (i := 0) (v := .slice (some ⟨g, off, none⟩) m d) (lit rfl) (by kernel_rfl) (by kernel_rfl) (by kernel_rfl) (fun _ _ _ h => h) (Or.inl ⟨by rfl, ?_⟩) hSd ?_
          · rintro w6 ⟨k1, k2⟩
            go_simp
          simp only [Act.put, List.setIfInBounds_toArray, List.set_cons_zero, List.set_cons_succ]
          refine wpAnyH_take (i := 1) (v := .int .i64 (k : Int)) (lit rfl) (by kernel_rfl) (by kernel_rfl) (by kernel_rfl) (fun _ _ _ h => h) (Or.inl ⟨by rfl, ?_⟩) hSd ?_
          · rintro w6 ⟨k1, k2⟩
            go_simp
          simp only [Act.put, List.setIfInBounds_toArray, List.set_cons_zero, List.set_cons_succ]
          refine wpAnyH_take (i := 2) (v := .pointer (some ⟨g, off + k, none⟩)) (lit rfl) (by kernel_rfl) (by kernel_rfl) (by kernel_rfl) (fun _ _ _ h => h) (Or.inl ⟨by rfl, ?_⟩) hSd ?_
          · rintro w6 ⟨k1, k2⟩
            go_simp
          simp only [Act.put, List.setIfInBounds_toArray, List.set_cons_zero, List.set_cons_succ]
          refine wpAnyH_take (i := 3) (v := .int .i64 x) (lit rfl) (by kernel_rfl) (by kernel_rfl) (by kernel_rfl) (fun _ _ _ h => h) (Or.inl ⟨by rfl, ?_⟩) hSd ?_
          · rintro w6 ⟨k1, k2⟩
            go_simp
          simp only [Act.put, List.setIfInBounds_toArray, List.set_cons_zero, List.set_cons_succ]
          refine wpAnyH_take (i := 4) (v := .bool false) (lit rfl) (by kernel_rfl) (by kernel_rfl) (by kernel_rfl) (fun _ _ _ h => h) (Or.inl ⟨by rfl, ?_⟩) hSd ?_
          · rintro w6 ⟨k1, k2⟩
            go_simp
          simp only [Act.put, List.setIfInBounds_toArray, List.set_cons_zero, List.set_cons_succ]
          refine wpAnyH_take (i := 5) (v := .bool false) (lit rfl) (by kernel_rfl) (by kernel_rfl) (by kernel_rfl) (fun _ _ _ h => h) (Or.inl ⟨by rfl, ?_⟩) hSd ?_
          · rintro w6 ⟨k1, k2⟩
            go_simp
          simp only [Act.put, List.setIfInBounds_toArray, List.set_cons_zero, List.set_cons_succ]
          refine wpAnyH_take (i := 6) (v := .slice (some ⟨g, off, none⟩) m d) (lit rfl) (by kernel_rfl) (by kernel_rfl) (by kernel_rfl) (fun _ _ _ h => h) (Or.inl ⟨by rfl, ?_⟩) hSd ?_
          · rintro w6 ⟨k1, k2⟩
            go_simp
          simp only [Act.put, List.setIfInBounds_toArray, List.set_cons_zero, List.set_cons_succ]
          refine wpAnyH_take (i := 7) (v := .int .i64 (k : Int)) (lit rfl) (by kernel_rfl) (by kernel_rfl) (by kernel_rfl) (fun _ _ _ h => h) (Or.inl ⟨by rfl, ?_⟩) hSd ?_
          · rintro w6 ⟨k1, k2⟩
            go_simp
          simp only [Act.put, List.setIfInBounds_toArray, List.set_cons_zero, List.set_cons_succ]
          refine wpAnyH_take (i := 8) (v := .pointer (some ⟨g, off + k, none⟩)) (lit rfl) (by kernel_rfl) (by kernel_rfl) (by kernel_rfl) (fun _ _ _ h => h) (Or.inl ⟨by rfl, ?_⟩) hSd ?_
          · rintro w6 ⟨k1, k2⟩
            go_simp
          simp only [Act.put, List.setIfInBounds_toArray, List.set_cons_zero, List.set_cons_succ]
          refine wpAnyH_take (i := 9) (v := .int .i64 x) (lit rfl) (by kernel_rfl) (by kernel_rfl) (by kernel_rfl) (fun _ _ _ h => h) (Or.inl ⟨by rfl, ?_⟩) hSd ?_
          · rintro w6 ⟨k1, k2⟩
            go_simp
          simp only [Act.put, List.setIfInBounds_toArray, List.set_cons_zero, List.set_cons_succ]
          refine wpAnyH_take (i := 10) (v := .bool true) (lit rfl) (by kernel_rfl) (by kernel_rfl) (by kernel_rfl) (fun _ _ _ h => h) (Or.inl ⟨by rfl, ?_⟩) hSd ?_
          · rintro w6 ⟨k1, k2⟩
            go_simp
          simp only [Act.put, List.setIfInBounds_toArray, List.set_cons_zero, List.set_cons_succ]
          refine wpAnyH_take (i := 11) (v := .bool true) (lit rfl) (by kernel_rfl) (by kernel_rfl) (by kernel_rfl) (fun _ _ _ h => h) (Or.inl ⟨by rfl, ?_⟩) hSd ?_
          · rintro w6 ⟨k1, k2⟩
            go_simp
          simp only [Act.put, List.setIfInBounds_toArray, List.set_cons_zero, List.set_cons_succ]
          refine wpAnyH_take (i := 12) (v := .bool true) (lit rfl) (by kernel_rfl) (by kernel_rfl) (by kernel_rfl) (fun _ _ _ h => h) (Or.inl ⟨by rfl, ?_⟩) hSd ?_
          · rintro w6 ⟨k1, k2⟩
            go_simp
          simp only [Act.put, List.setIfInBounds_toArray, List.set_cons_zero, List.set_cons_succ]
          refine wpAnyH_take (i := 13) (v := undef) (lit rfl) (by kernel_rfl) (by kernel_rfl) (by kernel_rfl) (fun _ _ _ h => h) (Or.inr ⟨by rfl, rfl⟩) hSd ?_
          simp only [Act.put, List.setIfInBounds_toArray, List.set_cons_zero, List.set_cons_succ]
          refine wpAnyH_take (i := 14) (v := undef) (lit rfl) (by kernel_rfl) (by kernel_rfl) (by kernel_rfl) (fun _ _ _ h => h) (Or.inr ⟨by rfl, rfl⟩) hSd ?_
          simp only [Act.put, List.setIfInBounds_toArray, List.set_cons_zero, List.set_cons_succ]
          refine wpAnyH_take (i := 15) (v := undef) (lit rfl) (by kernel_rfl) (by kernel_rfl) (by kernel_rfl) (fun _ _ _ h => h) (Or.inr ⟨by rfl, rfl⟩) hSd ?_
          simp only [Act.put, List.setIfInBounds_toArray, List.set_cons_zero, List.set_cons_succ]
          refine wpAnyH_take (i := 16) (v := undef) (lit rfl) (by kernel_rfl) (by kernel_rfl) (by kernel_rfl) (fun _ _ _ h => h) (Or.inr ⟨by rfl, rfl⟩) hSd ?_
          simp only [Act.put, List.setIfInBounds_toArray, List.set_cons_zero, List.set_cons_succ]
          refine wpAnyH_take (i := 17) (v := undef) (lit rfl) (by kernel_rfl) (by kernel_rfl) (by kernel_rfl) (fun _ _ _ h => h) (Or.inr ⟨by rfl, rfl⟩) hSd ?_
          simp only [Act.put, List.setIfInBounds_toArray, List.set_cons_zero, List.set_cons_succ]
          refine wpAnyH_take (i := 18) (v := undef) (lit rfl) (by kernel_rfl) (by kernel_rfl) (by kernel_rfl) (fun _ _ _ h => h) (Or.inr ⟨by rfl, rfl⟩) hSd ?_
          simp only [Act.put, List.setIfInBounds_toArray, List.set_cons_zero, List.set_cons_succ]
          refine wpAnyH_take (i := 19) (v := undef) (lit rfl) (by kernel_rfl) (by kernel_rfl) (by kernel_rfl) (fun _ _ _ h => h) (Or.inr ⟨by rfl, rfl⟩) hSd ?_
          simp only [Act.put, List.setIfInBounds_toArray, List.set_cons_zero, List.set_cons_succ]
          refine wpAnyH_take (i := 20) (v := undef) (lit rfl) (by kernel_rfl) (by kernel_rfl) (by kernel_rfl) (fun _ _ _ h => h) (Or.inr ⟨by rfl, rfl⟩) hSd ?_
          simp only [Act.put, List.setIfInBounds_toArray, List.set_cons_zero, List.set_cons_succ]
          refine wpAnyH_take (i := 21) (v := .bool true) (lit rfl) (by kernel_rfl) (by kernel_rfl) (by kernel_rfl) (fun _ _ _ h => h) (Or.inl ⟨by rfl, ?_⟩) hSd ?_
          · rintro w6 ⟨k1, k2⟩
            go_simp
          simp only [Act.put, List.setIfInBounds_toArray, List.set_cons_zero, List.set_cons_succ]
          refine wpAnyH_take (i := 22) (v := .bool true) (lit rfl) (by kernel_rfl) (by kernel_rfl) (by kernel_rfl) (fun _ _ _ h => h) (Or.inl ⟨by rfl, ?_⟩) hSd ?_
          · rintro w6 ⟨k1, k2⟩
            go_simp
          simp only [Act.put, List.setIfInBounds_toArray, List.set_cons_zero, List.set_cons_succ]
          refine wpAnyH_take (i := 23) (v := undef) (lit rfl) (by kernel_rfl) (by kernel_rfl) (by kernel_rfl) (fun _ _ _ h => h) (Or.inr ⟨by rfl, rfl⟩) hSd ?_
          simp only [Act.put, List.setIfInBounds_toArray, List.set_cons_zero, List.set_cons_succ]
          refine wpAnyH_take (i := 24) (v := undef) (lit rfl) (by kernel_rfl) (by kernel_rfl) (by kernel_rfl) (fun _ _ _ h => h) (Or.inr ⟨by rfl, rfl⟩) hSd ?_
          simp only [Act.put, List.setIfInBounds_toArray, List.set_cons_zero, List.set_cons_succ]
          refine wpAnyH_take (i := 25) (v := undef) (lit rfl) (by kernel_rfl) (by kernel_rfl) (by kernel_rfl) (fun _ _ _ h => h) (Or.inr ⟨by rfl, rfl⟩) hSd ?_
          simp only [Act.put, List.setIfInBounds_toArray, List.set_cons_zero, List.set_cons_succ]
          refine wpAnyH_take (i := 26) (v := undef) (lit rfl) (by kernel_rfl) (by kernel_rfl) (by kernel_rfl) (fun _ _ _ h => h) (Or.inr ⟨by rfl, rfl⟩) hSd ?_
          simp only [Act.put, List.setIfInBounds_toArray, List.set_cons_zero, List.set_cons_succ]
          refine wpAnyH_take (i := 27) (v := undef) (lit rfl) (by kernel_rfl) (by kernel_rfl) (by kernel_rfl) (fun _ _ _ h => h) (Or.inr ⟨by rfl, rfl⟩) hSd ?_
          simp only [Act.put, List.setIfInBounds_toArray, List.set_cons_zero, List.set_cons_succ]
          refine wpAnyH_take (i := 28) (v := undef) (lit rfl) (by kernel_rfl) (by kernel_rfl) (by kernel_rfl) (fun _ _ _ h => h) (Or.inr ⟨by rfl, rfl⟩) hSd ?_
          simp only [Act.put, List.setIfInBounds_toArray, List.set_cons_zero, List.set_cons_succ]
          refine wpAnyH_take (i := 29) (v := .bool true) (lit rfl) (by kernel_rfl) (by kernel_rfl) (by kernel_rfl) (fun _ _ _ h => h) (Or.inl ⟨by rfl, ?_⟩) hSd ?_
          · rintro w6 ⟨k1, k2⟩
            go_simp
          simp only [Act.put, List.setIfInBounds_toArray, List.set_cons_zero, List.set_cons_succ]
          refine wpAnyH_done (by kernel_rfl) ?_ _
          refine hK _ _ ?_
          go_wp2
          go_ret2
          exact HNO.out HBAD.out
        · by_cases hma : x ∈ a.take k
          · have HBAD : Hid (¬ (pgOk x = true ∧ x ∉ l ++ a.take k)) := Lib.hid (fun h1 => h1.2 (List.mem_append.2 (Or.inr hma)))
            rw [decide_eq_true hma] at HHA
            clear hma
            go_wp2
            rename_i K hK
            refine wp_held (fun w' : World => w'.cell? ⟨g, off + k, none⟩ = some (.int .i64 x) ∧ Below wr.heap.size wr w') K hmx ?_ (fun _ _ h => h)
            refine wpAnyH_take (i := 0) (v := .slice (some ⟨g, off, none⟩) m d) (lit rfl) (by kernel_rfl) (by kernel_rfl) (by kernel_rfl) (fun _ _ _ h => h) (Or.inl ⟨by rfl, ?_⟩) hSd ?_
            · rintro w6 ⟨k1, k2⟩
              go_simp
            simp only [Act.put, List.setIfInBounds_toArray, List.set_cons_zero, List.set_cons_succ]
            refine wpAnyH_take (i := 1) (v := .int .i64 (k : Int)) (lit rfl) (by kernel_rfl) (by kernel_rfl) (by kernel_rfl) (fun _ _ _ h => h) (Or.inl ⟨by rfl, ?_⟩) hSd ?_
            · rintro w6 ⟨k1, k2⟩
              go_simp
            simp only [Act.put, List.setIfInBounds_toArray, List.set_cons_zero, List.set_cons_succ]
            refine wpAnyH_take (i := 2) (v := .pointer (some ⟨g, off + k, none⟩)) (lit rfl) (by kernel_rfl) (by kernel_rfl) (by kernel_rfl) (fun _ _ _ h => h) (Or.inl ⟨by rfl, ?_⟩) hSd ?_
            · rintro w6 ⟨k1, k2⟩
              go_simp
            simp only [Act.put, List.setIfInBounds_toArray, List.set_cons_zero, List.set_cons_succ]
            refine wpAnyH_take (i := 3) (v := .int .i64 x) (lit rfl) (by kernel_rfl) (by kernel_rfl) (by kernel_rfl) (fun _ _ _ h => h) (Or.inl ⟨by rfl, ?_⟩) hSd ?_
            · rintro w6 ⟨k1, k2⟩
              go_simp
            simp only [Act.put, List.setIfInBounds_toArray, List.set_cons_zero, List.set_cons_succ]
            refine wpAnyH_take (i := 4) (v := .bool false) (lit rfl) (by kernel_rfl) (by kernel_rfl) (by kernel_rfl) (fun _ _ _ h => h) (Or.inl ⟨by rfl, ?_⟩) hSd ?_
            · rintro w6 ⟨k1, k2⟩
              go_simp
            simp only [Act.put, List.setIfInBounds_toArray, List.set_cons_zero, List.set_cons_succ]
            refine wpAnyH_take (i := 5) (v := .bool false) (lit rfl) (by kernel_rfl) (by kernel_rfl) (by kernel_rfl) (fun _ _ _ h => h) (Or.inl ⟨by rfl, ?_⟩) hSd ?_
            · rintro w6 ⟨k1, k2⟩
              go_simp
            simp only [Act.put, List.setIfInBounds_toArray, List.set_cons_zero, List.set_cons_succ]
            refine wpAnyH_take (i := 6) (v := .slice (some ⟨g, off, none⟩) m d) (lit rfl) (by kernel_rfl) (by kernel_rfl) (by kernel_rfl) (fun _ _ _ h => h) (Or.inl ⟨by rfl, ?_⟩) hSd ?_
            · rintro w6 ⟨k1, k2⟩
              go_simp
            simp only [Act.put, List.setIfInBounds_toArray, List.set_cons_zero, List.set_cons_succ]
            refine wpAnyH_take (i := 7) (v := .int .i64 (k : Int)) (lit rfl) (by kernel_rfl) (by kernel_rfl) (by kernel_rfl) (fun _ _ _ h => h) (Or.inl ⟨by rfl, ?_⟩) hSd ?_
            · rintro w6 ⟨k1, k2⟩
              go_simp
            simp only [Act.put, List.setIfInBounds_toArray, List.set_cons_zero, List.set_cons_succ]
            refine wpAnyH_take (i := 8) (v := .pointer (some ⟨g, off + k, none⟩)) (lit rfl) (by kernel_rfl) (by kernel_rfl) (by kernel_rfl) (fun _ _ _ h => h) (Or.inl ⟨by rfl, ?_⟩) hSd ?_
            · rintro w6 ⟨k1, k2⟩
              go_simp
            simp only [Act.put, List.setIfInBounds_toArray, List.set_cons_zero, List.set_cons_succ]
            refine wpAnyH_take (i := 9) (v := .int .i64 x) (lit rfl) (by kernel_rfl) (by kernel_rfl) (by kernel_rfl) (fun _ _ _ h => h) (Or.inl ⟨by rfl, ?_⟩) hSd ?_
            · rintro w6 ⟨k1, k2⟩
              go_simp
            simp only [Act.put, List.setIfInBounds_toArray, List.set_cons_zero, List.set_cons_succ]
            refine wpAnyH_take (i := 10) (v := .bool false) (lit rfl) (by kernel_rfl) (by kernel_rfl) (by kernel_rfl) (fun _ _ _ h => h) (Or.inl ⟨by rfl, ?_⟩) hSd ?_
            · rintro w6 ⟨k1, k2⟩
              go_simp
            simp only [Act.put, List.setIfInBounds_toArray, List.set_cons_zero, List.set_cons_succ]
            refine wpAnyH_take (i := 11) (v := .bool false) (lit rfl) (by kernel_rfl) (by kernel_rfl) (by kernel_rfl) (fun _ _ _ h => h) (Or.inl ⟨by rfl, ?_⟩) hSd ?_
            · rintro w6 ⟨k1, k2⟩
              go_simp
            simp only [Act.put, List.setIfInBounds_toArray, List.set_cons_zero, List.set_cons_succ]
            refine wpAnyH_take (i := 12) (v := .bool false) (lit rfl) (by kernel_rfl) (by kernel_rfl) (by kernel_rfl) (fun _ _ _ h => h) (Or.inl ⟨by rfl, ?_⟩) hSd ?_
            · rintro w6 ⟨k1, k2⟩
              go_simp
            simp only [Act.put, List.setIfInBounds_toArray, List.set_cons_zero, List.set_cons_succ]
            refine wpAnyH_take (i := 13) (v := .slice (some ⟨g, off, none⟩) m d) (lit rfl) (by kernel_rfl) (by kernel_rfl) (by kernel_rfl) (fun _ _ _ h => h) (Or.inl ⟨by rfl, ?_⟩) hSd ?_
            · rintro w6 ⟨k1, k2⟩
              go_simp
            simp only [Act.put, List.setIfInBounds_toArray, List.set_cons_zero, List.set_cons_succ]
            refine wpAnyH_take (i := 14) (v := .int .i64 (k : Int)) (lit rfl) (by kernel_rfl) (by kernel_rfl) (by kernel_rfl) (fun _ _ _ h => h) (Or.inl ⟨by rfl, ?_⟩) hSd ?_
            · rintro w6 ⟨k1, k2⟩
              go_simp
            simp only [Act.put, List.setIfInBounds_toArray, List.set_cons_zero, List.set_cons_succ]
            refine wpAnyH_take (i := 15) (v := .slice (some ⟨g, off, none⟩) k d) (lit rfl) (by kernel_rfl) (by kernel_rfl) (by kernel_rfl) (fun _ _ _ h => h) (Or.inl ⟨by rfl, ?_⟩) hSd ?_
            · rintro w6 ⟨k1, k2⟩
              go_simp
            simp only [Act.put, List.setIfInBounds_toArray, List.set_cons_zero, List.set_cons_succ]
            refine wpAnyH_take (i := 16) (v := .slice (some ⟨g, off, none⟩) m d) (lit rfl) (by kernel_rfl) (by kernel_rfl) (by kernel_rfl) (fun _ _ _ h => h) (Or.inl ⟨by rfl, ?_⟩) hSd ?_
            · rintro w6 ⟨k1, k2⟩
              go_simp
            simp only [Act.put, List.setIfInBounds_toArray, List.set_cons_zero, List.set_cons_succ]
            refine wpAnyH_take (i := 17) (v := .int .i64 (k : Int)) (lit rfl) (by kernel_rfl) (by kernel_rfl) (by kernel_rfl) (fun _ _ _ h => h) (Or.inl ⟨by rfl, ?_⟩) hSd ?_
            · rintro w6 ⟨k1, k2⟩
              go_simp
            simp only [Act.put, List.setIfInBounds_toArray, List.set_cons_zero, List.set_cons_succ]
            refine wpAnyH_take (i := 18) (v := .pointer (some ⟨g, off + k, none⟩)) (lit rfl) (by kernel_rfl) (by kernel_rfl) (by kernel_rfl) (fun _ _ _ h => h) (Or.inl ⟨by rfl, ?_⟩) hSd ?_
            · rintro w6 ⟨k1, k2⟩
              go_simp
            simp only [Act.put, List.setIfInBounds_toArray, List.set_cons_zero, List.set_cons_succ]
            refine wpAnyH_take (i := 19) (v := .int .i64 x) (lit rfl) (by kernel_rfl) (by kernel_rfl) (by kernel_rfl) (fun _ _ _ h => h) (Or.inl ⟨by rfl, ?_⟩) hSd ?_
            · rintro w6 ⟨k1, k2⟩
              go_simp
            simp only [Act.put, List.setIfInBounds_toArray, List.set_cons_zero, List.set_cons_succ]
            refine wpAnyH_ready (rs := [20]) (by kernel_rfl) (by simp) ?_
            refine AllReadyH.cons (lit rfl) (fun K5 hK5 => ?_) AllReadyH.nil
            go_simp
            go_at_call 28
            refine (HHA.out _ hSd.2).mono ?_
            rintro e5 w5 ⟨rfl, rfl⟩
            refine hK5.out _ _ hSd (fun _ => ?_)
            clear hK5 K5
            refine wpAnyH_take (i := 21) (v := .bool true) (lit rfl) (by kernel_rfl) (by kernel_rfl) (by kernel_rfl) (fun _ _ _ h => h) (Or.inl ⟨by rfl, ?_⟩) hSd ?_
            · rintro w6 ⟨k1, k2⟩
              go_simp
            simp only [Act.put, List.setIfInBounds_toArray, List.set_cons_zero, List.set_cons_succ]
            refine wpAnyH_take (i := 22) (v := .bool true) (lit rfl) (by kernel_rfl) (by kernel_rfl) (by kernel_rfl) (fun _ _ _ h => h) (Or.inl ⟨by rfl, ?_⟩) hSd ?_
            · rintro w6 ⟨k1, k2⟩
              go_simp
            simp only [Act.put, List.setIfInBounds_toArray, List.set_cons_zero, List.set_cons_succ]
            refine wpAnyH_take (i := 23) (v := undef) (lit rfl) (by kernel_rfl) (by kernel_rfl) (by kernel_rfl) (fun _ _ _ h => h) (Or.inr ⟨by rfl, rfl⟩) hSd ?_
            simp only [Act.put, List.setIfInBounds_toArray, List.set_cons_zero, List.set_cons_succ]
            refine wpAnyH_take (i := 24) (v := undef) (lit rfl) (by kernel_rfl) (by kernel_rfl) (by kernel_rfl) (fun _ _ _ h => h) (Or.inr ⟨by rfl, rfl⟩) hSd ?_
            simp only [Act.put, List.setIfInBounds_toArray, List.set_cons_zero, List.set_cons_succ]
            refine wpAnyH_take (i := 25) (v := undef) (lit rfl) (by kernel_rfl) (by kernel_rfl) (by kernel_rfl) (fun _ _ _ h => h) (Or.inr ⟨by rfl, rfl⟩) hSd ?_
            simp only [Act.put, List.setIfInBounds_toArray, List.set_cons_zero, List.set_cons_succ]
            refine wpAnyH_take (i := 26) (v := undef) (lit rfl) (by kernel_rfl) (by kernel_rfl) (by kernel_rfl) (fun _ _ _ h => h) (Or.inr ⟨by rfl, rfl⟩) hSd ?_
            simp only [Act.put, List.setIfInBounds_toArray, List.set_cons_zero, List.set_cons_succ]
            refine wpAnyH_take (i := 27) (v := undef) (lit rfl) (by kernel_rfl) (by kernel_rfl) (by kernel_rfl) (fun _ _ _ h => h) (Or.inr ⟨by rfl, rfl⟩) hSd ?_
            simp only [Act.put, List.setIfInBounds_toArray, List.set_cons_zero, List.set_cons_succ]
            refine wpAnyH_take (i := 28) (v := undef) (lit rfl) (by kernel_rfl) (by kernel_rfl) (by kernel_rfl) (fun _ _ _ h => h) (Or.inr ⟨by rfl, rfl⟩) hSd ?_
            simp only [Act.put, List.setIfInBounds_toArray, List.set_cons_zero, List.set_cons_succ]
            refine wpAnyH_take (i := 29) (v := .bool true) (lit rfl) (by kernel_rfl) (by kernel_rfl) (by kernel_rfl) (fun _ _ _ h => h) (Or.inl ⟨by rfl, ?_⟩) hSd ?_
            · rintro w6 ⟨k1, k2⟩
              go_simp
            simp only [Act.put, List.setIfInBounds_toArray, List.set_cons_zero, List.set_cons_succ]
            refine wpAnyH_done (by kernel_rfl) ?_ _
            refine hK _ _ ?_
            go_wp2
            go_ret2
            exact HNO.out HBAD.out
          · rw [decide_eq_false hma] at HHA
            by_cases hml : x ∈ l
            · have HBAD : Hid (¬ (pgOk x = true ∧ x ∉ l ++ a.take k)) := Lib.hid (fun h1 => h1.2 (List.mem_append.2 (Or.inl hml)))
              rw [decide_eq_true hml] at HHL
              clear hma hml
              go_wp2
              rename_i K hK
              refine wp_held (fun w' : World => w'.cell? ⟨g, off + k, none⟩ = some (.int .i64 x) ∧ Below wr.heap.size wr w') K hmx ?_ (fun _ _ h => h)
              refine wpAnyH_take (i := 0) (v := .slice (some ⟨g, off, none⟩) m d) (lit rfl) (by kernel_rfl) (by kernel_rfl) (by kernel_rfl) (fun _ _ _ h => h) (Or.inl ⟨by rfl, ?_⟩) hSd ?_
              · rintro w6 ⟨k1, k2⟩
                go_simp
              simp only [Act.put, List.setIfInBounds_toArray, List.set_cons_zero, List.set_cons_succ]
              refine wpAnyH_take (i := 1) (v := .int .i64 (k : Int)) (lit rfl) (by kernel_rfl) (by kernel_rfl) (by kernel_rfl) (fun _ _ _ h => h) (Or.inl ⟨by rfl, ?_⟩) hSd ?_
              · rintro w6 ⟨k1, k2⟩
                go_simp
              simp only [Act.put, List.setIfInBounds_toArray, List.set_cons_zero, List.set_cons_succ]
              refine wpAnyH_take (i := 2) (v := .pointer (some ⟨g, off + k, none⟩)) (lit rfl) (by kernel_rfl) (by kernel_rfl) (by kernel_rfl) (fun _ _ _ h => h) (Or.inl ⟨by rfl, ?_⟩) hSd ?_
              · rintro w6 ⟨k1, k2⟩
                go_simp
              simp only [Act.put, List.setIfInBounds_toArray, List.set_cons_zero, List.set_cons_succ]
              refine wpAnyH_take (i := 3) (v := .int .i64 x) (lit rfl) (by kernel_rfl) (by kernel_rfl) (by kernel_rfl) (fun _ _ _ h => h) (Or.inl ⟨by rfl, ?_⟩) hSd ?_
              · rintro w6 ⟨k1, k2⟩
                go_simp
              simp only [Act.put, List.setIfInBounds_toArray, List.set_cons_zero, List.set_cons_succ]
              refine wpAnyH_take (i := 4) (v := .bool false) (lit rfl) (by kernel_rfl) (by kernel_rfl) (by kernel_rfl) (fun _ _ _ h => h) (Or.inl ⟨by rfl, ?_⟩) hSd ?_
              · rintro w6 ⟨k1, k2⟩
                go_simp
              simp only [Act.put, List.setIfInBounds_toArray, List.set_cons_zero, List.set_cons_succ]
              refine wpAnyH_take (i := 5) (v := .bool false) (lit rfl) (by kernel_rfl) (by kernel_rfl) (by kernel_rfl) (fun _ _ _ h => h) (Or.inl ⟨by rfl, ?_⟩) hSd ?_
              · rintro w6 ⟨k1, k2⟩
                go_simp
              simp only [Act.put, List.setIfInBounds_toArray, List.set_cons_zero, List.set_cons_succ]
              refine wpAnyH_take (i := 6) (v := .slice (some ⟨g, off, none⟩) m d) (lit rfl) (by kernel_rfl) (by kernel_rfl) (by kernel_rfl) (fun _ _ _ h => h) (Or.inl ⟨by rfl, ?_⟩) hSd ?_
              · rintro w6 ⟨k1, k2⟩
                go_simp
              simp only [Act.put, List.setIfInBounds_toArray, List.set_cons_zero, List.set_cons_succ]
              refine wpAnyH_take (i := 7) (v := .int .i64 (k : Int)) (lit rfl) (by kernel_rfl) (by kernel_rfl) (by kernel_rfl) (fun _ _ _ h => h) (Or.inl ⟨by rfl, ?_⟩) hSd ?_
              · rintro w6 ⟨k1, k2⟩
                go_simp
              simp only [Act.put, List.setIfInBounds_toArray, List.set_cons_zero, List.set_cons_succ]
              refine wpAnyH_take (i := 8) (v := .pointer (some ⟨g, off + k, none⟩)) (lit rfl) (by kernel_rfl) (by kernel_rfl) (by kernel_rfl) (fun _ _ _ h => h) (Or.inl ⟨by rfl, ?_⟩) hSd ?_
              · rintro w6 ⟨k1, k2⟩
                go_simp
              simp only [Act.put, List.setIfInBounds_toArray, List.set_cons_zero, List.set_cons_succ]
              refine wpAnyH_take (i := 9) (v := .int .i64 x) (lit rfl) (by kernel_rfl) (by kernel_rfl) (by kernel_rfl) (fun _ _ _ h => h) (Or.inl ⟨by rfl, ?_⟩) hSd ?_
              · rintro w6 ⟨k1, k2⟩
                go_simp
              simp only [Act.put, List.setIfInBounds_toArray, List.set_cons_zero, List.set_cons_succ]
              refine wpAnyH_take (i := 10) (v := .bool false) (lit rfl) (by kernel_rfl) (by kernel_rfl) (by kernel_rfl) (fun _ _ _ h => h) (Or.inl ⟨by rfl, ?_⟩) hSd ?_
              · rintro w6 ⟨k1, k2⟩
                go_simp
              simp only [Act.put, List.setIfInBounds_toArray, List.set_cons_zero, List.set_cons_succ]
              refine wpAnyH_take (i := 11) (v := .bool false) (lit rfl) (by kernel_rfl) (by kernel_rfl) (by kernel_rfl) (fun _ _ _ h => h) (Or.inl ⟨by rfl, ?_⟩) hSd ?_
              · rintro w6 ⟨k1, k2⟩
                go_simp
              simp only [Act.put, List.setIfInBounds_toArray, List.set_cons_zero, List.set_cons_succ]
              refine wpAnyH_take (i := 12) (v := .bool false) (lit rfl) (by kernel_rfl) (by kernel_rfl) (by kernel_rfl) (fun _ _ _ h => h) (Or.inl ⟨by rfl, ?_⟩) hSd ?_
              · rintro w6 ⟨k1, k2⟩
                go_simp
              simp only [Act.put, List.setIfInBounds_toArray, List.set_cons_zero, List.set_cons_succ]
              refine wpAnyH_take (i := 13) (v := .slice (some ⟨g, off, none⟩) m d) (lit rfl) (by kernel_rfl) (by kernel_rfl) (by kernel_rfl) (fun _ _ _ h => h) (Or.inl ⟨by rfl, ?_⟩) hSd ?_
              · rintro w6 ⟨k1, k2⟩
                go_simp
              simp only [Act.put, List.setIfInBounds_toArray, List.set_cons_zero, List.set_cons_succ]
              refine wpAnyH_take (i := 14) (v := .int .i64 (k : Int)) (lit rfl) (by kernel_rfl) (by kernel_rfl) (by kernel_rfl) (fun _ _ _ h => h) (Or.inl ⟨by rfl, ?_⟩) hSd ?_
              · rintro w6 ⟨k1, k2⟩
                go_simp
              simp only [Act.put, List.setIfInBounds_toArray, List.set_cons_zero, List.set_cons_succ]
              refine wpAnyH_take (i := 15) (v := .slice (some ⟨g, off, none⟩) k d) (lit rfl) (by kernel_rfl) (by kernel_rfl) (by kernel_rfl) (fun _ _ _ h => h) (Or.inl ⟨by rfl, ?_⟩) hSd ?_
              · rintro w6 ⟨k1, k2⟩
                go_simp
              simp only [Act.put, List.setIfInBounds_toArray, List.set_cons_zero, List.set_cons_succ]
              refine wpAnyH_take (i := 16) (v := .slice (some ⟨g, off, none⟩) m d) (lit rfl) (by kernel_rfl) (by kernel_rfl) (by kernel_rfl) (fun _ _ _ h => h) (Or.inl ⟨by rfl, ?_⟩) hSd ?_
              · rintro w6 ⟨k1, k2⟩
                go_simp
              simp only [Act.put, List.setIfInBounds_toArray, List.set_cons_zero, List.set_cons_succ]
              refine wpAnyH_take (i := 17) (v := .int .i64 (k : Int)) (lit rfl) (by kernel_rfl) (by kernel_rfl) (by kernel_rfl) (fun _ _ _ h => h) (Or.inl ⟨by rfl, ?_⟩) hSd ?_
              · rintro w6 ⟨k1, k2⟩
                go_simp
              simp only [Act.put, List.setIfInBounds_toArray, List.set_cons_zero, List.set_cons_succ]
              refine wpAnyH_take (i := 18) (v := .pointer (some ⟨g, off + k, none⟩)) (lit rfl) (by kernel_rfl) (by kernel_rfl) (by kernel_rfl) (fun _ _ _ h => h) (Or.inl ⟨by rfl, ?_⟩) hSd ?_
              · rintro w6 ⟨k1, k2⟩
                go_simp
              simp only [Act.put, List.setIfInBounds_toArray, List.set_cons_zero, List.set_cons_succ]
              refine wpAnyH_take (i := 19) (v := .int .i64 x) (lit rfl) (by kernel_rfl) (by kernel_rfl) (by kernel_rfl) (fun _ _ _ h => h) (Or.inl ⟨by rfl, ?_⟩) hSd ?_
              · rintro w6 ⟨k1, k2⟩
                go_simp
              simp only [Act.put, List.setIfInBounds_toArray, List.set_cons_zero, List.set_cons_succ]
              refine wpAnyH_ready (rs := [20]) (by kernel_rfl) (by simp) ?_
              refine AllReadyH.cons (lit rfl) (fun K5 hK5 => ?_) AllReadyH.nil
              go_simp
              go_at_call 28
              refine (HHA.out _ hSd.2).mono ?_
              rintro e5 w5 ⟨rfl, rfl⟩
              refine hK5.out _ _ hSd (fun _ => ?_)
              clear hK5 K5
              refine wpAnyH_take (i := 21) (v := .bool false) (lit rfl) (by kernel_rfl) (by kernel_rfl) (by kernel_rfl) (fun _ _ _ h => h) (Or.inl ⟨by rfl, ?_⟩) hSd ?_
              · rintro w6 ⟨k1, k2⟩
                go_simp
              simp only [Act.put, List.setIfInBounds_toArray, List.set_cons_zero, List.set_cons_succ]
              refine wpAnyH_take (i := 22) (v := .bool false) (lit rfl) (by kernel_rfl) (by kernel_rfl) (by kernel_rfl) (fun _ _ _ h => h) (Or.inl ⟨by rfl, ?_⟩) hSd ?_
              · rintro w6 ⟨k1, k2⟩
                go_simp
              simp only [Act.put, List.setIfInBounds_toArray, List.set_cons_zero, List.set_cons_succ]
              refine wpAnyH_take (i := 23) (v := .slice A n c) (lit rfl) (by kernel_rfl) (by kernel_rfl) (by kernel_rfl) (fun _ _ _ h => h) (Or.inl ⟨by rfl, ?_⟩) hSd ?_
              · rintro w6 ⟨k1, k2⟩
                go_simp
              simp only [Act.put, List.setIfInBounds_toArray, List.set_cons_zero, List.set_cons_succ]
              refine wpAnyH_take (i := 24) (v := .slice (some ⟨g, off, none⟩) m d) (lit rfl) (by kernel_rfl) (by kernel_rfl) (by kernel_rfl) (fun _ _ _ h => h) (Or.inl ⟨by rfl, ?_⟩) hSd ?_
              · rintro w6 ⟨k1, k2⟩
                go_simp
              simp only [Act.put, List.setIfInBounds_toArray, List.set_cons_zero, List.set_cons_succ]
              refine wpAnyH_take (i := 25) (v := .int .i64 (k : Int)) (lit rfl) (by kernel_rfl) (by kernel_rfl) (by kernel_rfl) (fun _ _ _ h => h) (Or.inl ⟨by rfl, ?_⟩) hSd ?_
              · rintro w6 ⟨k1, k2⟩
                go_simp
              simp only [Act.put, List.setIfInBounds_toArray, List.set_cons_zero, List.set_cons_succ]
              refine wpAnyH_take (i := 26) (v := .pointer (some ⟨g, off + k, none⟩)) (lit rfl) (by kernel_rfl) (by kernel_rfl) (by kernel_rfl) (fun _ _ _ h => h) (Or.inl ⟨by rfl, ?_⟩) hSd ?_
              · rintro w6 ⟨k1, k2⟩
                go_simp
              simp only [Act.put, List.setIfInBounds_toArray, List.set_cons_zero, List.set_cons_succ]
              refine wpAnyH_take (i := 27) (v := .int .i64 x) (lit rfl) (by kernel_rfl) (by kernel_rfl) (by kernel_rfl) (fun _ _ _ h => h) (Or.inl ⟨by rfl, ?_⟩) hSd ?_
              · rintro w6 ⟨k1, k2⟩
                go_simp
              simp only [Act.put, List.setIfInBounds_toArray, List.set_cons_zero, List.set_cons_succ]
              refine wpAnyH_ready (rs := [28]) (by kernel_rfl) (by simp) ?_
              refine AllReadyH.cons (lit rfl) (fun K5 hK5 => ?_) AllReadyH.nil
              go_simp
              go_at_call 28
              refine (HHL.out _ hSd.2).mono ?_
              rintro e5 w5 ⟨rfl, rfl⟩
              refine hK5.out _ _ hSd (fun _ => ?_)
              clear hK5 K5
              refine wpAnyH_take (i := 29) (v := .bool true) (lit rfl) (by kernel_rfl) (by kernel_rfl) (by kernel_rfl) (fun _ _ _ h => h) (Or.inl ⟨by rfl, ?_⟩) hSd ?_
              · rintro w6 ⟨k1, k2⟩
                go_simp
              simp only [Act.put, List.setIfInBounds_toArray, List.set_cons_zero, List.set_cons_succ]
              refine wpAnyH_done (by kernel_rfl) ?_ _
              refine hK _ _ ?_
              go_wp2
              go_ret2
              exact HNO.out HBAD.out
            · have HOK2 := Lib.hid (okATo_snoc HOK.out (by rw [HXD.out]; exact pgOk_iff.2 (by omega)) (by rw [HXD.out, List.mem_append, not_or]; exact ⟨hml, hma⟩))
              rw [decide_eq_false hml] at HHL
              clear hma hml HNO
              go_wp2
              rename_i K hK
              refine wp_held (fun w' : World => w'.cell? ⟨g, off + k, none⟩ = some (.int .i64 x) ∧ Below wr.heap.size wr w') K hmx ?_ (fun _ _ h => h)
              refine wpAnyH_take (i := 0) (v := .slice (some ⟨g, off, none⟩) m d) (lit rfl) (by kernel_rfl) (by kernel_rfl) (by kernel_rfl) (fun _ _ _ h => h) (Or.inl ⟨by rfl, ?_⟩) hSd ?_
              · rintro w6 ⟨k1, k2⟩
                go_simp
              simp only [Act.put, List.setIfInBounds_toArray, List.set_cons_zero, List.set_cons_succ]
              refine wpAnyH_take (i := 1) (v := .int .i64 (k : Int)) (lit rfl) (by kernel_rfl) (by kernel_rfl) (by kernel_rfl) (fun _ _ _ h => h) (Or.inl ⟨by rfl, ?_⟩) hSd ?_
              · rintro w6 ⟨k1, k2⟩
                go_simp
              simp only [Act.put, List.setIfInBounds_toArray, List.set_cons_zero, List.set_cons_succ]
              refine wpAnyH_take (i := 2) (v := .pointer (some ⟨g, off + k, none⟩)) (lit rfl) (by kernel_rfl) (by kernel_rfl) (by kernel_rfl) (fun _ _ _ h => h) (Or.inl ⟨by rfl, ?_⟩) hSd ?_
              · rintro w6 ⟨k1, k2⟩
                go_simp
              simp only [Act.put, List.setIfInBounds_toArray, List.set_cons_zero, List.set_cons_succ]
              refine wpAnyH_take (i := 3) (v := .int .i64 x) (lit rfl) (by kernel_rfl) (by kernel_rfl) (by kernel_rfl) (fun _ _ _ h => h) (Or.inl ⟨by rfl, ?_⟩) hSd ?_
              · rintro w6 ⟨k1, k2⟩
                go_simp
              simp only [Act.put, List.setIfInBounds_toArray, List.set_cons_zero, List.set_cons_succ]
              refine wpAnyH_take (i := 4) (v := .bool false) (lit rfl) (by kernel_rfl) (by kernel_rfl) (by kernel_rfl) (fun _ _ _ h => h) (Or.inl ⟨by rfl, ?_⟩) hSd ?_
              · rintro w6 ⟨k1, k2⟩
                go_simp
              simp only [Act.put, List.setIfInBounds_toArray, List.set_cons_zero, List.set_cons_succ]
              refine wpAnyH_take (i := 5) (v := .bool false) (lit rfl) (by kernel_rfl) (by kernel_rfl) (by kernel_rfl) (fun _ _ _ h => h) (Or.inl ⟨by rfl, ?_⟩) hSd ?_
              · rintro w6 ⟨k1, k2⟩
                go_simp
              simp only [Act.put, List.setIfInBounds_toArray, List.set_cons_zero, List.set_cons_succ]
              refine wpAnyH_take (i := 6) (v := .slice (some ⟨g, off, none⟩) m d) (lit rfl) (by kernel_rfl) (by kernel_rfl) (by kernel_rfl) (fun _ _ _ h => h) (Or.inl ⟨by rfl, ?_⟩) hSd ?_
              · rintro w6 ⟨k1, k2⟩
                go_simp
              simp only [Act.put, List.setIfInBounds_toArray, List.set_cons_zero, List.set_cons_succ]
              refine wpAnyH_take (i := 7) (v := .int .i64 (k : Int)) (lit rfl) (by kernel_rfl) (by kernel_rfl) (by kernel_rfl) (fun _ _ _ h => h) (Or.inl ⟨by rfl, ?_⟩) hSd ?_
              · rintro w6 ⟨k1, k2⟩
                go_simp
              simp only [Act.put, List.setIfInBounds_toArray, List.set_cons_zero, List.set_cons_succ]
              refine wpAnyH_take (i := 8) (v := .pointer (some ⟨g, off + k, none⟩)) (lit rfl) (by kernel_rfl) (by kernel_rfl) (by kernel_rfl) (fun _ _ _ h => h) (Or.inl ⟨by rfl, ?_⟩) hSd ?_
              · rintro w6 ⟨k1, k2⟩
                go_simp
              simp only [Act.put, List.setIfInBounds_toArray, List.set_cons_zero, List.set_cons_succ]
              refine wpAnyH_take (i := 9) (v := .int .i64 x) (lit rfl) (by kernel_rfl) (by kernel_rfl) (by kernel_rfl) (fun _ _ _ h => h) (Or.inl ⟨by rfl, ?_⟩) hSd ?_
              · rintro w6 ⟨k1, k2⟩
                go_simp
              simp only [Act.put, List.setIfInBounds_toArray, List.set_cons_zero, List.set_cons_succ]
              refine wpAnyH_take (i := 10) (v := .bool false) (lit rfl) (by kernel_rfl) (by kernel_rfl) (by kernel_rfl) (fun _ _ _ h => h) (Or.inl ⟨by rfl, ?_⟩) hSd ?_
              · rintro w6 ⟨k1, k2⟩
                go_simp
              simp only [Act.put, List.setIfInBounds_toArray, List.set_cons_zero, List.set_cons_succ]
              refine wpAnyH_take (i := 11) (v := .bool false) (lit rfl) (by kernel_rfl) (by kernel_rfl) (by kernel_rfl) (fun _ _ _ h => h) (Or.inl ⟨by rfl, ?_⟩) hSd ?_
              · rintro w6 ⟨k1, k2⟩
                go_simp
              simp only [Act.put, List.setIfInBounds_toArray, List.set_cons_zero, List.set_cons_succ]
              refine wpAnyH_take (i := 12) (v := .bool false) (lit rfl) (by kernel_rfl) (by kernel_rfl) (by kernel_rfl) (fun _ _ _ h => h) (Or.inl ⟨by rfl, ?_⟩) hSd ?_
              · rintro w6 ⟨k1, k2⟩
                go_simp
              simp only [Act.put, List.setIfInBounds_toArray, List.set_cons_zero, List.set_cons_succ]
              refine wpAnyH_take (i := 13) (v := .slice (some ⟨g, off, none⟩) m d) (lit rfl) (by kernel_rfl) (by kernel_rfl) (by kernel_rfl) (fun _ _ _ h => h) (Or.inl ⟨by rfl, ?_⟩) hSd ?_
              · rintro w6 ⟨k1, k2⟩
                go_simp
              simp only [Act.put, List.setIfInBounds_toArray, List.set_cons_zero, List.set_cons_succ]
              refine wpAnyH_take (i := 14) (v := .int .i64 (k : Int)) (lit rfl) (by kernel_rfl) (by kernel_rfl) (by kernel_rfl) (fun _ _ _ h => h) (Or.inl ⟨by rfl, ?_⟩) hSd ?_
              · rintro w6 ⟨k1, k2⟩
                go_simp
              simp only [Act.put, List.setIfInBounds_toArray, List.set_cons_zero, List.set_cons_succ]
              refine wpAnyH_take (i := 15) (v := .slice (some ⟨g, off, none⟩) k d) (lit rfl) (by kernel_rfl) (by kernel_rfl) (by kernel_rfl) (fun _ _ _ h => h) (Or.inl ⟨by rfl, ?_⟩) hSd ?_
              · rintro w6 ⟨k1, k2⟩
                go_simp
              simp only [Act.put, List.setIfInBounds_toArray, List.set_cons_zero, List.set_cons_succ]
              refine wpAnyH_take (i := 16) (v := .slice (some ⟨g, off, none⟩) m d) (lit rfl) (by kernel_rfl) (by kernel_rfl) (by kernel_rfl) (fun _ _ _ h => h) (Or.inl ⟨by rfl, ?_⟩) hSd ?_
              · rintro w6 ⟨k1, k2⟩
                go_simp
              simp only [Act.put, List.setIfInBounds_toArray, List.set_cons_zero, List.set_cons_succ]
              refine wpAnyH_take (i := 17) (v := .int .i64 (k : Int)) (lit rfl) (by kernel_rfl) (by kernel_rfl) (by kernel_rfl) (fun _ _ _ h => h) (Or.inl ⟨by rfl, ?_⟩) hSd ?_
              · rintro w6 ⟨k1, k2⟩
                go_simp
              simp only [Act.put, List.setIfInBounds_toArray, List.set_cons_zero, List.set_cons_succ]
              refine wpAnyH_take (i := 18) (v := .pointer (some ⟨g, off + k, none⟩)) (lit rfl) (by kernel_rfl) (by kernel_rfl) (by kernel_rfl) (fun _ _ _ h => h) (Or.inl ⟨by rfl, ?_⟩) hSd ?_
              · rintro w6 ⟨k1, k2⟩
                go_simp
              simp only [Act.put, List.setIfInBounds_toArray, List.set_cons_zero, List.set_cons_succ]
              refine wpAnyH_take (i := 19) (v := .int .i64 x) (lit rfl) (by kernel_rfl) (by kernel_rfl) (by kernel_rfl) (fun _ _ _ h => h) (Or.inl ⟨by rfl, ?_⟩) hSd ?_
              · rintro w6 ⟨k1, k2⟩
                go_simp
              simp only [Act.put, List.setIfInBounds_toArray, List.set_cons_zero, List.set_cons_succ]
              refine wpAnyH_ready (rs := [20]) (by kernel_rfl) (by simp) ?_
              refine AllReadyH.cons (lit rfl) (fun K5 hK5 => ?_) AllReadyH.nil
              go_simp
              go_at_call 28
              refine (HHA.out _ hSd.2).mono ?_
              rintro e5 w5 ⟨rfl, rfl⟩
              refine hK5.out _ _ hSd (fun _ => ?_)
              clear hK5 K5
              refine wpAnyH_take (i := 21) (v := .bool false) (lit rfl) (by kernel_rfl) (by kernel_rfl) (by kernel_rfl) (fun _ _ _ h => h) (Or.inl ⟨by rfl, ?_⟩) hSd ?_
              · rintro w6 ⟨k1, k2⟩
                go_simp
              simp only [Act.put, List.setIfInBounds_toArray, List.set_cons_zero, List.set_cons_succ]
              refine wpAnyH_take (i := 22) (v := .bool false) (lit rfl) (by kernel_rfl) (by kernel_rfl) (by kernel_rfl) (fun _ _ _ h => h) (Or.inl ⟨by rfl, ?_⟩) hSd ?_
              · rintro w6 ⟨k1, k2⟩
                go_simp
              simp only [Act.put, List.setIfInBounds_toArray, List.set_cons_zero, List.set_cons_succ]
              refine wpAnyH_take (i := 23) (v := .slice A n c) (lit rfl) (by kernel_rfl) (by kernel_rfl) (by kernel_rfl) (fun _ _ _ h => h) (Or.inl ⟨by rfl, ?_⟩) hSd ?_
              · rintro w6 ⟨k1, k2⟩
                go_simp
              simp only [Act.put, List.setIfInBounds_toArray, List.set_cons_zero, List.set_cons_succ]
              refine wpAnyH_take (i := 24) (v := .slice (some ⟨g, off, none⟩) m d) (lit rfl) (by kernel_rfl) (by kernel_rfl) (by kernel_rfl) (fun _ _ _ h => h) (Or.inl ⟨by rfl, ?_⟩) hSd ?_
              · rintro w6 ⟨k1, k2⟩
                go_simp
              simp only [Act.put, List.setIfInBounds_toArray, List.set_cons_zero, List.set_cons_succ]
              refine wpAnyH_take (i := 25) (v := .int .i64 (k : Int)) (lit rfl) (by kernel_rfl) (by kernel_rfl) (by kernel_rfl) (fun _ _ _ h => h) (Or.inl ⟨by rfl, ?_⟩) hSd ?_
              · rintro w6 ⟨k1, k2⟩
                go_simp
              simp only [Act.put, List.setIfInBounds_toArray, List.set_cons_zero, List.set_cons_succ]
              refine wpAnyH_take (i := 26) (v := .pointer (some ⟨g, off + k, none⟩)) (lit rfl) (by kernel_rfl) (by kernel_rfl) (by kernel_rfl) (fun _ _ _ h => h) (Or.inl ⟨by rfl, ?_⟩) hSd ?_
              · rintro w6 ⟨k1, k2⟩
                go_simp
              simp only [Act.put, List.setIfInBounds_toArray, List.set_cons_zero, List.set_cons_succ]
              refine wpAnyH_take (i := 27) (v := .int .i64 x) (lit rfl) (by kernel_rfl) (by kernel_rfl) (by kernel_rfl) (fun _ _ _ h => h) (Or.inl ⟨by rfl, ?_⟩) hSd ?_
              · rintro w6 ⟨k1, k2⟩
                go_simp
              simp only [Act.put, List.setIfInBounds_toArray, List.set_cons_zero, List.set_cons_succ]
              refine wpAnyH_ready (rs := [28]) (by kernel_rfl) (by simp) ?_
              refine AllReadyH.cons (lit rfl) (fun K5 hK5 => ?_) AllReadyH.nil
              go_simp
              go_at_call 28
              refine (HHL.out _ hSd.2).mono ?_
              rintro e5 w5 ⟨rfl, rfl⟩
              refine hK5.out _ _ hSd (fun _ => ?_)
              clear hK5 K5
              refine wpAnyH_take (i := 29) (v := .bool false) (lit rfl) (by kernel_rfl) (by kernel_rfl) (by kernel_rfl) (fun _ _ _ h => h) (Or.inl ⟨by rfl, ?_⟩) hSd ?_
              · rintro w6 ⟨k1, k2⟩
                go_simp
              simp only [Act.put, List.setIfInBounds_toArray, List.set_cons_zero, List.set_cons_succ]
              refine wpAnyH_done (by kernel_rfl) ?_ _
              refine hK _ _ ?_
              obtain ⟨y, hy⟩ : ∃ y, a.getD (k + 1) 0 = y := ⟨_, rfl⟩
              have hwr := u64w9 y
              have hN := rNum_yes (u64N9 y) 2
              have HN2 : Hid (∀ w, Calls Tryd.prog 29 #[.int .u64 ((u64N9 y : Nat) : Int), .int .i64 2] w fun e w' => e = .returned (.string ⟨(numB (u64N9 y) 2).toArray⟩) ∧ Below w.heap.size w w') := Lib.hid (fun w => hN w (u64l9 y) (by decide) (by decide))
              have HPG2 : Hid (rPgL l a k = cPage 4 [numB (u64N9 y) 2 ++ numsB (partI l k)]) := Lib.hid (by unfold rPgL; rw [hy])
              have HFT : Hid (cFits 4 [numB (u64N9 y) 2 ++ numsB (partI l k)]) := Lib.hid ⟨by decide, by simp only [cSz, List.length_append, numB_len, numsB_len, partI_len]; omega⟩
              have HNBL : Hid ((numB (u64N9 y) 2).length = 2) := Lib.hid (numB_len _ _)
              obtain ⟨nb, hnb⟩ : ∃ nb, numB (u64N9 y) 2 = nb := ⟨_, rfl⟩
              rw [hnb] at HN2 HPG2 HFT HNBL
              obtain ⟨ux, hux⟩ : ∃ ux, u64N9 y = ux := ⟨_, rfl⟩
              rw [hux] at hwr HN2
              obtain ⟨pl, hpl⟩ : ∃ pl, (partI l k).length = pl := ⟨_, rfl⟩
              have hpl2 : pl = min (n - 59 * k) 59 := by rw [← hpl, partI_len, HLL.out]
              have HPL := Lib.hid hpl2
              have HPLL := Lib.hid hpl
              have HPEL : Hid (∀ t (ht : t < (partI l k).length), l[59 * k + t]? = some (partI l k)[t]) := Lib.hid (fun t ht => by
                have h1 : (partI l k)[t]? = some (partI l k)[t] := List.getElem?_eq_getElem ht
                rw [← h1]
                unfold partI at ht ⊢
                rw [List.length_take] at ht
                rw [List.getElem?_take, if_pos (by omega), List.getElem?_drop])
              have HPM : Hid (∀ t (ht : t < (partI l k).length), 2 ≤ (partI l k)[t] ∧ (partI l k)[t] ≤ 999) := Lib.hid (fun t ht => HMEM.out _ (partI_mem (List.getElem_mem ht)))
              have HPSV : Hid (cstV (rPgL l a k) = .string ⟨(rPgL l a k).toArray⟩) := Lib.hid rfl
              have HPK : Hid (∀ A n c w, TxtA w A n [nb ++ numsB (partI l k)] → Calls Tryd.prog 30 #[.int .u8 4, .slice A n c] w (RPackEnd (rPgL l a k) 0 w)) := Lib.hid (fun A n c w h => by rw [HPG2.out]; exact r7Pack_yes 4 A n c [nb ++ numsB (partI l k)] w h HFT.out)
              obtain ⟨pi, hpi⟩ : ∃ pi, partI l k = pi := ⟨_, rfl⟩
              rw [hpi] at HPK HPLL HPEL HPM
              unfold RPackEnd at HPK
              obtain ⟨pgl, hpgl⟩ : ∃ pgl, rPgL l a k = pgl := ⟨_, rfl⟩
              rw [hpgl] at HPK HPSV
              have HPGL := Lib.hid hpgl
              obtain ⟨pg, hpg⟩ : ∃ pg : ByteArray, (⟨pgl.toArray⟩ : ByteArray) = pg := ⟨_, rfl⟩
              rw [hpg] at HPK HPSV
              obtain ⟨ns, hns⟩ : ∃ ns : ByteArray, (⟨nb.toArray⟩ : ByteArray) = ns := ⟨_, rfl⟩
              rw [hns] at HN2
              have t4 : ns.size = 2 := by rw [← hns, size_list]; exact HNBL.out
              have HNS := Lib.hid hns
              have hk4 : k ≤ 10000 := by omega
              clear hpl hpl2 hpi hpgl hpg hns hux hnb hN HFT HPG2 HXD
              by_cases hk1 : k + 1 < m
              · have hyc : wr.cell? ⟨g, off + (k + 1), none⟩ = some (.int .i64 y) := HYC.out hk1 y hy
                have hk1I : (k : Int) + 1 < (m : Int) := by omega
                clear hy HYC
                go_wp2_with (go_at_call 29; (try rw [hwr]); (with_reducible refine (HN2.out _).mono ?_); rintro r1 w1 ⟨rfl, b1⟩; have B1 : Hid (Below wr.heap.size wr w1) := Lib.hid ((Below.refl _ wr).drew.trans b1); clear b1)
                obtain ⟨wv, hwv⟩ : ∃ wv : World, wv = wr := ⟨_, rfl⟩
                subst hwv
                have hst0 : (.string ns : Value) = .string ⟨(nb ++ numsB (pi.take 0)).toArray⟩ := by rw [List.take_zero, numsB_nil, List.append_nil, HNS.out]
                go_loopw [10, 11] (fun v i wq => ∃ j t : Nat, j = 59 * k + t ∧ t ≤ pl ∧ i = .int .i64 (j : Int) ∧ v = .string ⟨(nb ++ numsB (pi.take t)).toArray⟩ ∧ Below wv.heap.size wv wq) (fun _ i _ => 59 * k + pl - (intOf i).toNat)
                case atStart => exact ⟨59 * k, 0, rfl, Nat.zero_le _, by go_num, hst0, B1.out⟩
                case round =>
                  clear B1 hst0
                  obtain ⟨j, t, hjt, ht, rfl, rfl, hb⟩ := hrel
                  have HBQ := Lib.hid hb
                  have HJT := Lib.hid hjt
                  have hjb : j ≤ 700000 := by have := HPL.out; omega
                  clear hb
                  by_cases hlt2 : t < pl
                  · have htl : t < pi.length := by rw [HPLL.out]; exact hlt2
                    have hel := HPEL.out t htl
                    have hmm := HPM.out t htl
                    have hc1 : (j : Int) < (n : Int) := by have := HPL.out; omega
                    have hc2 : (j : Int) < 59 * (k : Int) + 59 := by have := HPL.out; omega
                    have HTK : Hid (nb ++ numsB (pi.take (t + 1)) = (nb ++ numsB (pi.take t)) ++ numB pi[t].toNat 2) := Lib.hid (by rw [numsB_take htl, List.append_assoc])
                    rw [← hjt] at hel
                    obtain ⟨u, hu⟩ : ∃ u : Nat, pi[t] = (u : Int) := ⟨pi[t].toNat, by omega⟩
                    rw [hu] at hel hmm HTK
                    rw [Int.toNat_natCast] at HTK
                    obtain ⟨gl, ol, rfl, hcl⟩ := ((HLA.out.below9 HB.out).below9 HBQ.out).at_ hel
                    have hu9 : u ≤ 999 := by omega
                    have hN3 := rNum_yes u 2
                    have HN3 : Hid (∀ w, Calls Tryd.prog 29 #[.int .u64 (u : Int), .int .i64 2] w fun e w' => e = .returned (.string ⟨(numB u 2).toArray⟩) ∧ Below w.heap.size w w') := Lib.hid (fun w => hN3 w (by omega) (by decide) (by decide))
                    have hsz1 : (⟨(nb ++ numsB (pi.take t)).toArray⟩ : ByteArray).size = 2 + 2 * t := by rw [size_list, List.length_append, HNBL.out, numsB_len, List.length_take, Nat.min_eq_left (by omega)]
                    have hsz2 : (⟨(numB u 2).toArray⟩ : ByteArray).size = 2 := by rw [size_list, numB_len]
                    have HCE : Hid ((⟨(nb ++ numsB (pi.take t)).toArray⟩ : ByteArray) ++ ⟨(numB u 2).toArray⟩ = ⟨(nb ++ numsB (pi.take (t + 1))).toArray⟩) := Lib.hid (by rw [str_app, HTK.out])
                    generalize (⟨(numB u 2).toArray⟩ : ByteArray) = s2 at HN3 hsz2 HCE
                    generalize (⟨(nb ++ numsB (pi.take t)).toArray⟩ : ByteArray) = s1 at hsz1 HCE ⊢
                    have hpl59 : pl ≤ 59 := by have := HPL.out; omega
                    have hsum : s1.size + s2.size ≤ 1000 := by omega
                    have hj0 : (0 : Int) ≤ (j : Int) := by omega
                    clear hu hel hmm hN3 hjt
                    go_wp2_with (go_at_call 29; (with_reducible refine (HN3.out _).mono ?_); rintro r1 w6 ⟨rfl, b6⟩; have B6 := Lib.hid (below_step HBQ.out b6); clear b6)
                    go_roundw
                    case rel => exact ⟨j + 1, t + 1, by have := HJT.out; omega, by omega, by go_num, by rw [← HCE.out], B6.out⟩
                    case measure => (have := HJT.out); simp [intOf]; omega
                  · obtain rfl : t = pl := by omega
                    have hst : nb ++ numsB (pi.take t) = nb ++ numsB pi := by rw [List.take_of_length_le (by rw [HPLL.out]; exact Nat.le_refl _)]
                    rw [hst]
                    obtain ⟨cb, hcb⟩ : ∃ cb, nb ++ numsB pi = cb := ⟨_, rfl⟩
                    rw [hcb] at HPK ⊢
                    obtain ⟨wo, hwo⟩ : ∃ wo : World, wo = wr := ⟨_, rfl⟩
                    subst hwo
                    by_cases hjn : j < n
                    · have hc1 : (j : Int) < (n : Int) := by omega
                      have hc2 : ¬ (j : Int) < 59 * (k : Int) + 59 := by have := HPL.out; omega
                      clear hst hcb hjt hjn ht hlt2
                      go_wp2_with (first
                        | (go_at_call 30; go_loud (obtain ⟨w2, hw2⟩ : ∃ w2, wo.alloc (.cells #[.string ⟨cb.toArray⟩] 9) = w2 := ⟨_, rfl⟩; (try rw [hw2]); have X2 := Lib.hid (hw2 ▸ ((Below.refl wo.heap.size wo).alloc (Nat.le_refl _) _)); have TX : Hid (TxtA w2 (some ⟨wo.heap.size, 0, none⟩) 1 [cb]) := Lib.hid ⟨rfl, fun _ => ⟨wo.heap.size, 0, rfl, fun j u hj => by rw [← hw2, (Has.made wo 9 #[.string ⟨cb.toArray⟩]).cell, Nat.zero_add]; simpa [cstV] using hj⟩⟩; (with_reducible refine (HPK.out _ _ _ _ TX.out).mono ?_); rintro r3 w3 ⟨rfl, b3⟩; have B3 := Lib.hid (below_step HBQ.out (below_step X2.out b3)); clear b3 hw2))
                        | (at_builtin; go_loud (refine wpList_append_one rfl _ _ 29 9 rfl w.heap.size 9 j0 _ 16 Tryd.underlying29 hj jz0 jz1 jz2 rfl _ k _ rfl (ceOwnBelow HO.out B3.out) (.string pg) rfl rfl ?_ ?_ ?_ ?_; (omega); (unfold maxLen; omega); (exact (below_step HB.out B3.out).size); intro v4 w4 h7 h8; have O4 := Lib.hid h7; have B4 := Lib.hid ((below_step HB.out B3.out).trans h8); clear h7 h8)))
                      go_roundw
                      case rel =>
                        refine ⟨k + 1, by omega, by go_num, HOK2.out, ?_, B4.out⟩
                        rw [List.range_succ, List.map_append, List.map_append]
                        simp only [List.map_cons, List.map_nil]
                        rw [HPGL.out, HPSV.out]
                        exact O4.out
                      case measure => simp [intOf]; omega
                    · have hc1 : ¬ (j : Int) < (n : Int) := by omega
                      clear hst hcb hjt hjn ht hlt2
                      go_wp2_with (first
                        | (go_at_call 30; go_loud (obtain ⟨w2, hw2⟩ : ∃ w2, wo.alloc (.cells #[.string ⟨cb.toArray⟩] 9) = w2 := ⟨_, rfl⟩; (try rw [hw2]); have X2 := Lib.hid (hw2 ▸ ((Below.refl wo.heap.size wo).alloc (Nat.le_refl _) _)); have TX : Hid (TxtA w2 (some ⟨wo.heap.size, 0, none⟩) 1 [cb]) := Lib.hid ⟨rfl, fun _ => ⟨wo.heap.size, 0, rfl, fun j u hj => by rw [← hw2, (Has.made wo 9 #[.string ⟨cb.toArray⟩]).cell, Nat.zero_add]; simpa [cstV] using hj⟩⟩; (with_reducible refine (HPK.out _ _ _ _ TX.out).mono ?_); rintro r3 w3 ⟨rfl, b3⟩; have B3 := Lib.hid (below_step HBQ.out (below_step X2.out b3)); clear b3 hw2))
                        | (at_builtin; go_loud (refine wpList_append_one rfl _ _ 29 9 rfl w.heap.size 9 j0 _ 16 Tryd.underlying29 hj jz0 jz1 jz2 rfl _ k _ rfl (ceOwnBelow HO.out B3.out) (.string pg) rfl rfl ?_ ?_ ?_ ?_; (omega); (unfold maxLen; omega); (exact (below_step HB.out B3.out).size); intro v4 w4 h7 h8; have O4 := Lib.hid h7; have B4 := Lib.hid ((below_step HB.out B3.out).trans h8); clear h7 h8)))
                      go_roundw
                      case rel =>
                        refine ⟨k + 1, by omega, by go_num, HOK2.out, ?_, B4.out⟩
                        rw [List.range_succ, List.map_append, List.map_append]
                        simp only [List.map_cons, List.map_nil]
                        rw [HPGL.out, HPSV.out]
                        exact O4.out
                      case measure => simp [intOf]; omega
              · have hy0 : y = 0 := HY0.out hk1 y hy
                subst hy0
                have hk1I : ¬ ((k : Int) + 1 < (m : Int)) := by omega
                clear hy HYC
                go_wp2_with (go_at_call 29; (try rw [hwr]); (with_reducible refine (HN2.out _).mono ?_); rintro r1 w1 ⟨rfl, b1⟩; have B1 : Hid (Below wr.heap.size wr w1) := Lib.hid ((Below.refl _ wr).drew.trans b1); clear b1)
                obtain ⟨wv, hwv⟩ : ∃ wv : World, wv = wr := ⟨_, rfl⟩
                subst hwv
                have hst0 : (.string ns : Value) = .string ⟨(nb ++ numsB (pi.take 0)).toArray⟩ := by rw [List.take_zero, numsB_nil, List.append_nil, HNS.out]
                go_loopw [10, 11] (fun v i wq => ∃ j t : Nat, j = 59 * k + t ∧ t ≤ pl ∧ i = .int .i64 (j : Int) ∧ v = .string ⟨(nb ++ numsB (pi.take t)).toArray⟩ ∧ Below wv.heap.size wv wq) (fun _ i _ => 59 * k + pl - (intOf i).toNat)
                case atStart => exact ⟨59 * k, 0, rfl, Nat.zero_le _, by go_num, hst0, B1.out⟩
                case round =>
                  clear B1 hst0
                  obtain ⟨j, t, hjt, ht, rfl, rfl, hb⟩ := hrel
                  have HBQ := Lib.hid hb
                  have HJT := Lib.hid hjt
                  have hjb : j ≤ 700000 := by have := HPL.out; omega
                  clear hb
                  by_cases hlt2 : t < pl
                  · have htl : t < pi.length := by rw [HPLL.out]; exact hlt2
                    have hel := HPEL.out t htl
                    have hmm := HPM.out t htl
                    have hc1 : (j : Int) < (n : Int) := by have := HPL.out; omega
                    have hc2 : (j : Int) < 59 * (k : Int) + 59 := by have := HPL.out; omega
                    have HTK : Hid (nb ++ numsB (pi.take (t + 1)) = (nb ++ numsB (pi.take t)) ++ numB pi[t].toNat 2) := Lib.hid (by rw [numsB_take htl, List.append_assoc])
                    rw [← hjt] at hel
                    obtain ⟨u, hu⟩ : ∃ u : Nat, pi[t] = (u : Int) := ⟨pi[t].toNat, by omega⟩
                    rw [hu] at hel hmm HTK
                    rw [Int.toNat_natCast] at HTK
                    obtain ⟨gl, ol, rfl, hcl⟩ := ((HLA.out.below9 HB.out).below9 HBQ.out).at_ hel
                    have hu9 : u ≤ 999 := by omega
                    have hN3 := rNum_yes u 2
                    have HN3 : Hid (∀ w, Calls Tryd.prog 29 #[.int .u64 (u : Int), .int .i64 2] w fun e w' => e = .returned (.string ⟨(numB u 2).toArray⟩) ∧ Below w.heap.size w w') := Lib.hid (fun w => hN3 w (by omega) (by decide) (by decide))
                    have hsz1 : (⟨(nb ++ numsB (pi.take t)).toArray⟩ : ByteArray).size = 2 + 2 * t := by rw [size_list, List.length_append, HNBL.out, numsB_len, List.length_take, Nat.min_eq_left (by omega)]
                    have hsz2 : (⟨(numB u 2).toArray⟩ : ByteArray).size = 2 := by rw [size_list, numB_len]
                    have HCE : Hid ((⟨(nb ++ numsB (pi.take t)).toArray⟩ : ByteArray) ++ ⟨(numB u 2).toArray⟩ = ⟨(nb ++ numsB (pi.take (t + 1))).toArray⟩) := Lib.hid (by rw [str_app, HTK.out])
                    generalize (⟨(numB u 2).toArray⟩ : ByteArray) = s2 at HN3 hsz2 HCE
                    generalize (⟨(nb ++ numsB (pi.take t)).toArray⟩ : ByteArray) = s1 at hsz1 HCE ⊢
                    have hpl59 : pl ≤ 59 := by have := HPL.out; omega
                    have hsum : s1.size + s2.size ≤ 1000 := by omega
                    have hj0 : (0 : Int) ≤ (j : Int) := by omega
                    clear hu hel hmm hN3 hjt
                    go_wp2_with (go_at_call 29; (with_reducible refine (HN3.out _).mono ?_); rintro r1 w6 ⟨rfl, b6⟩; have B6 := Lib.hid (below_step HBQ.out b6); clear b6)
                    go_roundw
                    case rel => exact ⟨j + 1, t + 1, by have := HJT.out; omega, by omega, by go_num, by rw [← HCE.out], B6.out⟩
                    case measure => (have := HJT.out); simp [intOf]; omega
                  · obtain rfl : t = pl := by omega
                    have hst : nb ++ numsB (pi.take t) = nb ++ numsB pi := by rw [List.take_of_length_le (by rw [HPLL.out]; exact Nat.le_refl _)]
                    rw [hst]
                    obtain ⟨cb, hcb⟩ : ∃ cb, nb ++ numsB pi = cb := ⟨_, rfl⟩
                    rw [hcb] at HPK ⊢
                    obtain ⟨wo, hwo⟩ : ∃ wo : World, wo = wr := ⟨_, rfl⟩
                    subst hwo
                    by_cases hjn : j < n
                    · have hc1 : (j : Int) < (n : Int) := by omega
                      have hc2 : ¬ (j : Int) < 59 * (k : Int) + 59 := by have := HPL.out; omega
                      clear hst hcb hjt hjn ht hlt2
                      go_wp2_with (first
                        | (go_at_call 30; go_loud (obtain ⟨w2, hw2⟩ : ∃ w2, wo.alloc (.cells #[.string ⟨cb.toArray⟩] 9) = w2 := ⟨_, rfl⟩; (try rw [hw2]); have X2 := Lib.hid (hw2 ▸ ((Below.refl wo.heap.size wo).alloc (Nat.le_refl _) _)); have TX : Hid (TxtA w2 (some ⟨wo.heap.size, 0, none⟩) 1 [cb]) := Lib.hid ⟨rfl, fun _ => ⟨wo.heap.size, 0, rfl, fun j u hj => by rw [← hw2, (Has.made wo 9 #[.string ⟨cb.toArray⟩]).cell, Nat.zero_add]; simpa [cstV] using hj⟩⟩; (with_reducible refine (HPK.out _ _ _ _ TX.out).mono ?_); rintro r3 w3 ⟨rfl, b3⟩; have B3 := Lib.hid (below_step HBQ.out (below_step X2.out b3)); clear b3 hw2))
                        | (at_builtin; go_loud (refine wpList_append_one rfl _ _ 29 9 rfl w.heap.size 9 j0 _ 16 Tryd.underlying29 hj jz0 jz1 jz2 rfl _ k _ rfl (ceOwnBelow HO.out B3.out) (.string pg) rfl rfl ?_ ?_ ?_ ?_; (omega); (unfold maxLen; omega); (exact (below_step HB.out B3.out).size); intro v4 w4 h7 h8; have O4 := Lib.hid h7; have B4 := Lib.hid ((below_step HB.out B3.out).trans h8); clear h7 h8)))
                      go_roundw
                      case rel =>
                        refine ⟨k + 1, by omega, by go_num, HOK2.out, ?_, B4.out⟩
                        rw [List.range_succ, List.map_append, List.map_append]
                        simp only [List.map_cons, List.map_nil]
                        rw [HPGL.out, HPSV.out]
                        exact O4.out
                      case measure => simp [intOf]; omega
                    · have hc1 : ¬ (j : Int) < (n : Int) := by omega
                      clear hst hcb hjt hjn ht hlt2
                      go_wp2_with (first
                        | (go_at_call 30; go_loud (obtain ⟨w2, hw2⟩ : ∃ w2, wo.alloc (.cells #[.string ⟨cb.toArray⟩] 9) = w2 := ⟨_, rfl⟩; (try rw [hw2]); have X2 := Lib.hid (hw2 ▸ ((Below.refl wo.heap.size wo).alloc (Nat.le_refl _) _)); have TX : Hid (TxtA w2 (some ⟨wo.heap.size, 0, none⟩) 1 [cb]) := Lib.hid ⟨rfl, fun _ => ⟨wo.heap.size, 0, rfl, fun j u hj => by rw [← hw2, (Has.made wo 9 #[.string ⟨cb.toArray⟩]).cell, Nat.zero_add]; simpa [cstV] using hj⟩⟩; (with_reducible refine (HPK.out _ _ _ _ TX.out).mono ?_); rintro r3 w3 ⟨rfl, b3⟩; have B3 := Lib.hid (below_step HBQ.out (below_step X2.out b3)); clear b3 hw2))
                        | (at_builtin; go_loud (refine wpList_append_one rfl _ _ 29 9 rfl w.heap.size 9 j0 _ 16 Tryd.underlying29 hj jz0 jz1 jz2 rfl _ k _ rfl (ceOwnBelow HO.out B3.out) (.string pg) rfl rfl ?_ ?_ ?_ ?_; (omega); (unfold maxLen; omega); (exact (below_step HB.out B3.out).size); intro v4 w4 h7 h8; have O4 := Lib.hid h7; have B4 := Lib.hid ((below_step HB.out B3.out).trans h8); clear h7 h8)))
                      go_roundw
                      case rel =>
                        refine ⟨k + 1, by omega, by go_num, HOK2.out, ?_, B4.out⟩
                        rw [List.range_succ, List.map_append, List.map_append]
                        simp only [List.map_cons, List.map_nil]
                        rw [HPGL.out, HPSV.out]
                        exact O4.out
                      case measure => simp [intOf]; omega
    · obtain rfl : k = m := by omega
      have hg : goodL l a := ⟨HL.out, by rw [← HLN.out, ← HLL.out]; exact HNM.out, fun j hj => HOK.out j (by rw [HLN.out]; exact hj)⟩
      have hp : putL l a = (pgsL l a, 0) := by unfold putL; rw [if_pos hg]
      have he : (List.range k).map (rPgL l a) = pgsL l a := by
        unfold pgsL
        rw [← HLN.out]
        exact List.map_congr_left (fun j _ => rPgL_ok hg.2.2 j)
      have ho := HO.out
      rw [he] at ho
      obtain ⟨A2, c2, rfl, _, hT⟩ := TxtA.of_own ho
      have HT := Lib.hid hT
      have HP := Lib.hid hp
      obtain ⟨w3, hw3⟩ : ∃ w3 : World, w3 = wr := ⟨_, rfl⟩
      subst hw3
      clear ho hT hp he hg
      go_wp2
      go_ret2
      unfold RPutEndL
      rw [HP.out]
      exact ⟨A2, k, c2, rfl, HT.out, HB.out⟩
theorem r11Put_any (l a : List Int) (A : Option Addr) (n c : Nat) (B : Option Addr) (m d : Nat) (w : World) (h : Ints6 w A n l) (hB : Ints6 w B m a) (hn : n ≤ 10000) (hm : m ≤ 10000) (hd : m ≤ d) (hdm : d ≤ maxLen) :
    Calls Tryd.prog 10 #[.slice A n c, .slice B m d] w (RPutEndL l a w) := by
  by_cases hg : okL l ∧ needL n ≤ m
  · exact r11Put_yes l a A n c B m d w h hB hn hm hd hdm hg.1 hg.2
  · exact r11Put_no l a A n c B m d w h hB (by omega) hg
end Go.Proofs.YthcjledpjlpfaaaDoor
