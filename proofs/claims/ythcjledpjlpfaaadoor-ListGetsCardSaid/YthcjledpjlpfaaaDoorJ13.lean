import Derived.Test.YthcjledpjlpfaaaDoorJFlo
import Derived.Test.YthcjledpjlpfaaaDoorJ09
import Derived.Test.YthcjledpjlpfaaaDoorJ01
import Derived.Test.YthcjledpjlpfaaaDoorJ10
import Derived.Lib.MinMax
/- Of a claim's texts, joined: Flq Flr. No statement but in the last. -/
section
namespace Go.Proofs.YthcjledpjlpfaaaDoor
open Go.RowKit
set_option linter.unusedVariables false

theorem numsB_take {l : List Int} {k : Nat} (hk : k < l.length) : numsB (l.take (k + 1)) = numsB (l.take k) ++ numB l[k].toNat 2 := by
  rw [List.take_succ_eq_append_getElem hk, numsB_snoc]
set_option maxRecDepth 100000 in
set_option maxHeartbeats 2000000 in
theorem fPutPart_any (A : Option Addr) (n c : Nat) (l : List Int) (x : Nat) (w : World) (ht : Tab w) (h : Ints6 w A n l) (hl : n ≤ 59) (hm : ∀ y ∈ l, 2 ≤ y ∧ y ≤ 999) (hx : x ≤ 999) :
    Calls Tryd.prog 26 #[.slice A n c, .int .i64 x] w (PackOk 4 [numB x 2 ++ numsB l] w) := by
  have HA := Lib.hid h
  have HL := Lib.hid h.len
  have HT := Lib.hid ht
  have HM := Lib.hid hm
  obtain ⟨i0, hi, hz0, hz1, hz2⟩ := info_parts u8info
  have HN : Hid (∀ w1, Calls Tryd.prog 46 #[.int .u64 (x : Int), .int .i64 2] w1 fun e w' => e = .returned (.slice (some ⟨w1.heap.size, 0, none⟩) 2 2) ∧ w1.alloc (.cells ((numB x 2).map byteV).toArray 5) = w') := Lib.hid (fun w1 => Num_yes x 2 w1 (by omega) (by omega) (by omega))
  have HO1 := Lib.hid (own_num w x 2 (by omega))
  have HNL : Hid ((numB x 2).length = 2) := Lib.hid (numB_len _ _)
  have HFT : Hid (cFits 4 [numB x 2 ++ numsB l]) := Lib.hid ⟨by decide, by have := HL.out; simp only [cSz, List.length_append, numB_len, numsB_len]; omega⟩
  have HCL : Hid ((numB x 2 ++ numsB l).length = 2 + 2 * n) := Lib.hid (by rw [List.length_append, numB_len, numsB_len, ← HL.out])
  have HP : Hid (∀ A n c a m d w1, Tab w1 → CellsA w1 A n c [⟨a, m, d, numB x 2 ++ numsB l⟩] → Few [⟨a, m, d, numB x 2 ++ numsB l⟩] → Calls Tryd.prog 47 #[.int .u8 4, .slice A n c] w1 (PackOk 4 [numB x 2 ++ numsB l] w1)) := Lib.hid (fun A n c a m d w1 ht h hf => cePack_yes 4 A n c [⟨a, m, d, numB x 2 ++ numsB l⟩] w1 ht h hf HFT.out)
  obtain ⟨nb, hnb⟩ : ∃ nb, numB x 2 = nb := ⟨_, rfl⟩
  rw [hnb] at HN HO1 HNL HFT HCL HP ⊢
  clear h ht hm hnb
  obtain ⟨W, hW⟩ : ∃ W, w.alloc (.cells (nb.map byteV).toArray 5) = W := ⟨_, rfl⟩
  have HW := Lib.hid hW
  have HB := Lib.hid (show Below w.heap.size w W from hW ▸ (Below.refl _ w).alloc (Nat.le_refl _) _)
  rw [hW] at HO1
  clear hW
  go_enter Tryd.func26, Tryd.ntmps26
  go_wp2_with (go_at_call 46; (with_reducible refine (HN.out _).mono ?_); rintro e w1 ⟨rfl, rfl⟩; (try rw [HW.out]))
  go_loopw [6, 14] (fun v i wr => ∃ k : Nat, k ≤ n ∧ i = .int .i64 k ∧ wr.ownsRow w.heap.size 5 1 v (2 + 2 * k) ((nb ++ numsB (l.take k)).map byteV) ∧ Below w.heap.size w wr) (fun _ i _ => n - (intOf i).toNat)
  case atStart => exact ⟨0, Nat.zero_le _, rfl, by simpa [numsB] using HO1.out, HB.out⟩
  case round =>
    obtain ⟨k, hk, rfl, ho, hb⟩ := hrel
    have HO := Lib.hid ho
    have HB := Lib.hid hb
    clear ho hb
    by_cases hlt : k < n
    · have hkl : k < l.length := by have := HL.out; omega
      obtain ⟨g, off, rfl, ck⟩ := (HA.out.below9 HB.out).at_ (List.getElem?_eq_getElem hkl)
      have HT1 := Lib.hid (numsB_take hkl)
      have hxb := HM.out l[k] (List.getElem_mem hkl)
      obtain ⟨y, hy⟩ : ∃ y : Nat, l[k] = (y : Int) := ⟨l[k].toNat, by omega⟩
      rw [hy] at ck HT1 hxb
      rw [Int.toNat_natCast] at HT1
      have hy9 : y ≤ 999 := by omega
      have HY : Hid (∀ w1, Calls Tryd.prog 46 #[.int .u64 (y : Int), .int .i64 2] w1 fun e w' => e = .returned (.slice (some ⟨w1.heap.size, 0, none⟩) 2 2) ∧ w1.alloc (.cells ((numB y 2).map byteV).toArray 5) = w') := Lib.hid (fun w1 => Num_yes y 2 w1 (by omega) (by omega) (by omega))
      have HYL : Hid ((numB y 2).length = 2) := Lib.hid (numB_len _ _)
      generalize numB y 2 = yb at HY HYL HT1
      clear hy hxb hkl
      go_wp2_with (first
        | (go_at_call 46; (with_reducible refine (HY.out _).mono ?_); rintro e w1 ⟨rfl, rfl⟩)
        | (at_builtin; refine wpList_append_bytes rfl _ _ 32 rfl w.heap.size 5 i0 Tryd.underlying32 hi hz0 hz1 hz2 _ (2 + 2 * k) _ rfl (HO.out.alloc (.cells (yb.map byteV).toArray 5)) (some ⟨wr.heap.size, 0, none⟩) 2 2 yb rfl HYL.out.symm (fun h => by cases h) (row_made wr yb).reads (by omega) (by have := HB.out.size; simp; omega) ?_; intro v3 w3 h7 h8; rw [← List.map_append, List.append_assoc, ← HT1.out] at h7; have O3 := Lib.hid h7; have B3 := Lib.hid (below_ownR (HB.out.alloc HB.out.size (.cells (yb.map byteV).toArray 5)) h8 (HO.out.alloc (.cells (yb.map byteV).toArray 5)) (by have := HB.out.size; simp; omega)); clear h7 h8))
      go_roundw
      case rel => exact ⟨k + 1, by omega, by go_num, O3.out, B3.out⟩
      case measure => simp [intOf]; omega
    · obtain rfl : k = n := by omega
      have ho := HO.out
      rw [List.take_of_length_le (by rw [← HL.out]; exact Nat.le_refl _)] at ho
      obtain ⟨A3, c3, rfl, g1, g2⟩ := own_slice ho
      have R3 := Lib.hid (Arg.of_row (n := 2 + 2 * k) (Row.of_own ho) HCL.out.symm (by omega) g1 g2)
      have hcl := HCL.out
      obtain ⟨cb, hcb⟩ : ∃ cb, nb ++ numsB l = cb := ⟨_, rfl⟩
      rw [hcb] at HP HFT HCL R3 hcl
      have HCB := Lib.hid hcb
      obtain ⟨wo, hwo⟩ : ∃ wo : World, wo = wr := ⟨_, rfl⟩
      subst hwo
      have HFW : Hid (∀ a m d, Few [⟨a, m, d, cb⟩]) := Lib.hid (fun a m d => by
        unfold Few
        exact ⟨by simp, by intro y hy; simp only [List.mem_cons, List.mem_nil_iff, or_false] at hy; rcases hy with rfl; simp only; omega⟩)
      obtain ⟨w4, hw4⟩ : ∃ w4, wo.alloc (.cells #[.slice A3 (2 + 2 * k) c3] 32) = w4 := ⟨_, rfl⟩
      have X4 := Lib.hid (show Below wo.heap.size wo w4 from hw4 ▸ ((Below.refl wo.heap.size wo).alloc (Nat.le_refl _) _))
      have Q4 : Hid (CellsA w4 (some ⟨wo.heap.size, 0, none⟩) 1 1 [⟨A3, 2 + 2 * k, c3, cb⟩]) := Lib.hid (cells_of9 (w := w4) (B := wo.heap.size) (q := [⟨A3, 2 + 2 * k, c3, cb⟩]) (by simp) (hw4 ▸ Has.made wo 32 _) (by intro y hy; simp only [List.mem_cons, List.mem_nil_iff, or_false] at hy; rcases hy with rfl; exact R3.out.below X4.out))
      have W4 := Lib.hid hw4
      clear hw4 ho hcl hcb
      go_wp2_with (go_at_call 47; go_loud ((try rw [W4.out]); (with_reducible refine (HP.out _ _ _ _ _ _ _ (HT.out.below (below_step HB.out X4.out)) Q4.out (HFW.out _ _ _)).mono ?_); rintro e w5 ⟨A5, c5, rfl, g1, g2, r5, b5⟩; have B4 := Lib.hid (below_step HB.out X4.out); have R5 := Lib.hid r5; have B5 := Lib.hid (below_step B4.out b5); clear r5 b5))
      go_ret2
      unfold PackOk
      rw [HCB.out]
      exact ⟨A5, c5, rfl, g1, g2, R5.out.low B4.out.size, B5.out⟩
end Go.Proofs.YthcjledpjlpfaaaDoor
end

section
namespace Go.Proofs.YthcjledpjlpfaaaDoor
open Go.RowKit
set_option linter.unusedVariables false

theorem eq_nilI_yes (n c : Nat) (w : World) : (binOp .eql 22 (.slice none n c) (.slice none 0 0)).run Tryd.prog w = .ok (.bool true) w := Lib.run_eql_slice_nil w 22 3 none n c 0 0 Tryd.underlying22
theorem eq_nilI_no (a : Addr) (n c : Nat) (w : World) : (binOp .eql 22 (.slice (some a) n c) (.slice none 0 0)).run Tryd.prog w = .ok (.bool false) w := Lib.run_eql_slice_nil w 22 3 (some a) n c 0 0 Tryd.underlying22
theorem own_newI (w : World) : (w.alloc (.cells #[] 3)).ownsRow w.heap.size 3 1 (.slice (some ⟨w.heap.size, 0, none⟩) 0 0) 0 [] := World.ownsRow_made w #[] 0 (Nat.le_refl _) (by decide) rfl
theorem one_int (l : List Int) : ∀ u ∈ l.map (Value.int .i64), u.oneCell' = true := fun u hu => by
  obtain ⟨x, _, rfl⟩ := List.mem_map.1 hu
  rfl
def CloneEnd (l : List Int) (n : Nat) (w : World) (e : Ending) (w' : World) : Prop := ∃ A c, e = .returned (.slice A n c) ∧ w'.ownsRow w.heap.size 3 1 (.slice A n c) n (l.map (Value.int .i64)) ∧ Below w.heap.size w w'
theorem cloneI_any (A : Option Addr) (n c : Nat) (l : List Int) (w : World) (h : Ints6 w A n l) (hn : n ≤ 1000000) : Calls Tryd.prog 25 #[.slice A n c] w (CloneEnd l n w) := by
  rcases A with _ | a
  · have h0 : l = [] := by
      rcases l with _ | ⟨d, l⟩
      · rfl
      · obtain ⟨g, off, ha, _⟩ := h.reads (by simp)
        cases ha
    subst h0
    obtain rfl : n = 0 := h.len
    have hq := eq_nilI_yes 0 c
    go_enter Tryd.func25, Tryd.ntmps25
    go_wp2
    go_ret
    exact ⟨none, 0, rfl, World.ownsRow_nil _ _ _ _, Below.refl _ _⟩
  · have hcl : ∀ j u, (l.map (Value.int .i64))[j]? = some u → (w.alloc (.cells #[] 3)).cell? (a.add j) = some u := by
      intro j u hj
      obtain ⟨g, off, hA, hc⟩ := h.reads (by
        have := (List.getElem?_eq_some_iff.1 hj).1
        omega)
      injection hA with hA
      subst hA
      rw [add_plain]
      have hc2 := hc j u hj
      exact (World.cell?_alloc_lt w _ _ (World.block_lt_of_cell? w _ hc2)).trans hc2
    have HC := Lib.hid hcl
    have HL : Hid ((l.map (Value.int .i64)).length = n) := Lib.hid (by rw [List.length_map, h.len])
    clear h hcl
    obtain ⟨i0, hi, hz0, hz1, hz2⟩ := info_parts int_info
    have hq := eq_nilI_no a n c
    go_enter Tryd.func25, Tryd.ntmps25
    go_wp2_with (at_builtin; go_loud (refine wpList_append_own _ rfl _ _ 22 rfl w.heap.size 3 i0 (.int .i64 0) 1 8 Tryd.underlying22 hi hz0 hz1 hz2 rfl (by decide) _ _ _ rfl (own_newI w) a n c (l.map (Value.int .i64)) rfl (by rw [Nat.mul_one]; exact HL.out) HC.out (one_int l) (by unfold maxLen; omega) (by omega) (by simp) ?_; intro v' w1 hown hgrow hnil; have HO := Lib.hid hown; have HG := Lib.hid hgrow; clear hown hgrow hnil))
    go_ret
    have ho := HO.out
    rw [Nat.zero_add, List.nil_append] at ho
    obtain ⟨A2, c2, rfl, _, _⟩ := own_sliceI ho
    refine ⟨A2, c2, rfl, ho, ?_⟩
    exact below_ownR ((Below.refl _ w).alloc (Nat.le_refl _) _) HG.out (own_newI w) (by simp)
theorem Ints6.dropK {w : World} {A : Option Addr} {n c : Nat} {l : List Int} (h : Ints6 w A n l) (hc : n ≤ c) {k : Nat} (hk : k ≤ n) : Ints6 w (if c = k then A else A.map (·.add k)) (n - k) (l.drop k) := by
  refine ⟨by rw [List.length_drop, ← h.len], fun hx => ?_⟩
  have hl : k < l.length := by
    rw [List.length_map, List.length_drop] at hx
    omega
  rw [if_neg (by have := h.len; omega)]
  obtain ⟨g, off, hA, hr⟩ := h.reads (by rw [List.length_map]; omega)
  subst hA
  refine ⟨g, off + k, by simp [add_plain], fun j u hj => ?_⟩
  have := hr (k + j) u (by rw [← hj, List.map_drop, List.getElem?_drop])
  rw [← Nat.add_assoc] at this
  exact this
def PutEndL (l a : List Int) (w : World) (e : Ending) (w' : World) : Prop :=
  ∃ A n c q, e = .returned (.tuple #[.slice A n c, .int .i64 (putL l a).2]) ∧ CellsA w' A n c q ∧ lq q = (putL l a).1 ∧ (∀ x ∈ q, RowH w.heap.size w' x) ∧ Below w.heap.size w w' ∧ Row w' 32 w.heap.size A (q.map Hd.v)
set_option maxHeartbeats 1000000 in
theorem fPut_no (l a : List Int) (A : Option Addr) (n c : Nat) (B : Option Addr) (m d : Nat) (w : World) (h : Ints6 w A n l) (hB : Ints6 w B m a) (hn : n ≤ 1000000) (hm : m ≤ 1000000) (hc : n ≤ c) (hcm : c ≤ maxLen) (hg : ¬ goodL l a) :
    Calls Tryd.prog 9 #[.slice A n c, .slice B m d] w (PutEndL l a w) := by
  have hp : putL l a = ([], 1) := by unfold putL; rw [if_neg hg]
  have HR : Hid (∀ w', Below w.heap.size w w' → PutEndL l a w (.returned (.tuple #[.slice none 0 0, .int .i64 1])) w') := Lib.hid (fun w' hb => by
    unfold PutEndL
    rw [hp]
    exact ⟨none, 0, 0, [], rfl, CellsA.none_ _, rfl, (by intro x hx; cases hx), hb, Row.empty⟩)
  have HI := Lib.hid (fIsList_any A n c l w h hn hc hcm)
  have HN := Lib.hid (fNeed_any (n : Int) (by omega) w)
  have HP := Lib.hid (fPlaces_any B m d a A n c l w hB h hm hn)
  have hln := h.len
  clear hp
  by_cases hl : okL l
  · rw [decide_eq_true hl] at HI
    by_cases hnn : needL n ≤ m
    · have hko : decide (okA l a) = false := decide_eq_false (fun ho => hg ⟨hl, by rw [← hB.len, ← hln]; exact hnn, ho⟩)
      rw [hko] at HP
      obtain ⟨z, hz⟩ : ∃ z, needL (n : Int) = z := ⟨_, rfl⟩
      rw [hz] at HN hnn
      have hnI : ¬ (m : Int) < (z : Int) := by omega
      clear hnn hl hg h hB hko hln hz
      go_enter Tryd.func9, Tryd.ntmps9
      go_wp2_with (first
        | (go_at_call 23; (with_reducible refine HI.out.mono ?_); rintro e w1 ⟨rfl, rfl⟩)
        | (go_at_call 11; (with_reducible refine HN.out.mono ?_); rintro e w1 ⟨rfl, rfl⟩)
        | (go_at_call 24; (with_reducible refine HP.out.mono ?_); rintro e w1 ⟨rfl, b1⟩; have B1 := Lib.hid b1; clear b1))
      go_ret2
      exact HR.out _ B1.out
    · obtain ⟨z, hz⟩ : ∃ z, needL (n : Int) = z := ⟨_, rfl⟩
      rw [hz] at HN hnn
      have hnI : (m : Int) < (z : Int) := by omega
      clear hnn hl hg h hB hln hz HP
      go_enter Tryd.func9, Tryd.ntmps9
      go_wp2_with (first
        | (go_at_call 23; (with_reducible refine HI.out.mono ?_); rintro e w1 ⟨rfl, rfl⟩)
        | (go_at_call 11; (with_reducible refine HN.out.mono ?_); rintro e w1 ⟨rfl, rfl⟩))
      go_ret2
      exact HR.out _ (Below.refl _ _)
  · rw [decide_eq_false hl] at HI
    clear hl hg h hB hln HP HN
    go_enter Tryd.func9, Tryd.ntmps9
    go_wp2_with (go_at_call 23; (with_reducible refine HI.out.mono ?_); rintro e w1 ⟨rfl, rfl⟩)
    go_ret2
    exact HR.out _ (Below.refl _ _)
theorem PutL_step {w X w6 w7 : World} {k c6 : Nat} {v v' : Value} {q : List Hd} {A6 A5 : Option Addr} {page : List UInt8} {tmp : Obj} {nx : List Value}
    (hb : Below w.heap.size w X) (ho : X.ownsRow w.heap.size 32 1 v k (q.map Hd.v)) (hrq : ∀ x ∈ q, RowH w.heap.size X x) (hN : Row X 3 w.heap.size A5 nx) (hpl : page.length = 128) (b6 : Below X.heap.size X w6) (r6 : Row w6 5 X.heap.size A6 (page.map byteV)) (g3 : 128 ≤ c6) (g4 : c6 ≤ maxLen)
    (hgrow : (w6.alloc tmp).grownBy w7 v.ownBlock) (hown' : w7.ownsRow w.heap.size 32 1 v' (k + 1) (q.map Hd.v ++ [.slice A6 128 c6])) :
    w7.ownsRow w.heap.size 32 1 v' (k + 1) ((q ++ [(⟨A6, 128, c6, page⟩ : Hd)]).map Hd.v) ∧ (∀ x ∈ q ++ [(⟨A6, 128, c6, page⟩ : Hd)], RowH w.heap.size w7 x) ∧ Row w7 3 w.heap.size A5 nx ∧ Below w.heap.size w w7 := by
  have ho6 := (ceOwnBelow ho b6).alloc tmp
  have ba : Below w6.heap.size w6 (w6.alloc tmp) := (Below.refl _ w6).alloc (Nat.le_refl _) tmp
  refine ⟨by rw [hd_snoc]; exact hown', fun x hx => ?_, ((hN.below b6).alloc tmp).kept_own ho6 (by decide) hgrow, below_ownR (below_alloc' (below_step hb b6) tmp) hgrow ho6 (Nat.le_trans (below_step hb b6).size ba.size)⟩
  rcases List.mem_append.1 hx with hx | hx
  · exact (((hrq x hx).below b6).below ba).own ho6 hgrow
  · obtain rfl := List.mem_singleton.1 hx
    have h0 : RowH w.heap.size w6 (⟨A6, 128, c6, page⟩ : Hd) := ⟨hpl.symm, by show 0 < 128; decide, r6.low hb.size, g3, g4⟩
    exact (h0.below ba).own ho6 hgrow
set_option maxRecDepth 100000 in
set_option maxHeartbeats 4000000 in
theorem fPut_yes (l a : List Int) (A : Option Addr) (n c : Nat) (B : Option Addr) (m d : Nat) (w : World) (ht : Tab w) (h : Ints6 w A n l) (hB : Ints6 w B m a) (hn : n ≤ 100000) (hm : m ≤ 100000) (hc : n ≤ c) (hcm : c ≤ maxLen) (hg : goodL l a) :
    Calls Tryd.prog 9 #[.slice A n c, .slice B m d] w (PutEndL l a w) := by
  have hp : putL l a = (pgsL l a, 0) := by unfold putL; rw [if_pos hg]
  have HI := Lib.hid (fIsList_any A n c l w h (by omega) hc hcm)
  have HN := Lib.hid (fNeed_any (n : Int) (by omega) w)
  have HP := Lib.hid (fPlaces_any B m d a A n c l w hB h (by omega) (by omega))
  obtain ⟨hl, hnm, hok⟩ := id hg
  rw [decide_eq_true hl] at HI
  rw [decide_eq_true hok] at HP
  rw [← h.len, ← hB.len] at hnm
  have HLA := Lib.hid hB.len
  obtain ⟨z, hz⟩ : ∃ z, needL (n : Int) = z := ⟨_, rfl⟩
  rw [hz] at HN hnm
  have hnI : ¬ (m : Int) < (z : Int) := by omega
  have HC := Lib.hid (fun w1 (b1 : Below w.heap.size w w1) => cloneI_any B m d a w1 (hB.below9 b1) (by omega))
  have HPA := Lib.hid (fun k => okL_take hl k)
  have HMEM := Lib.hid (fun x (hx : x ∈ l) => okL_mem hl hx)
  have HNE := Lib.hid (fun k => okA_next hok k)
  have HPL := Lib.hid (pageL_len l a)
  have HPU := Lib.hid (fun A1 n1 c1 l1 x1 w1 ht h hl hm hx => fPutPart_any A1 n1 c1 l1 x1 w1 ht h hl hm hx)
  obtain ⟨i0, hi, hz0, hz1, hz2⟩ := info_parts int_info
  obtain ⟨j0, hj, jz0, jz1, jz2⟩ := info_parts (show (Tryd.prog.info? 32).map (fun i => (i.zero, i.size, i.bytes)) = some (some (.slice none 0 0), 1, 24) by kernel_rfl)
  have HA := Lib.hid h
  have HT := Lib.hid ht
  have HPP := Lib.hid hp
  have HNX : Hid (∀ k, k < m → ((a ++ [(0 : Int)]).drop 1)[k]? = some (a.getD (k + 1) 0)) := Lib.hid (fun k hk => by
    have hkl : k < a.length := by rw [← HLA.out]; exact hk
    rw [List.getElem?_drop, List.getD_eq_getElem?_getD]
    by_cases hk1 : k + 1 < a.length
    · rw [List.getElem?_append_left (by omega), Nat.add_comm 1 k, List.getElem?_eq_getElem hk1]
      rfl
    · rw [List.getElem?_append_right (by omega), List.getElem?_eq_none (by omega : a.length ≤ k + 1), show 1 + k - a.length = 0 by omega]
      rfl)
  have hcI : c ≤ 9223372036854775807 := by unfold maxLen at hcm; omega
  clear h hB hl hok hp hz ht hg hnm
  go_enter Tryd.func9, Tryd.ntmps9
  go_wp2_with (first
    | (go_at_call 23; (with_reducible refine HI.out.mono ?_); rintro e w1 ⟨rfl, rfl⟩)
    | (go_at_call 11; (with_reducible refine HN.out.mono ?_); rintro e w1 ⟨rfl, rfl⟩)
    | (go_at_call 24; (with_reducible refine HP.out.mono ?_); rintro e w1 ⟨rfl, b1⟩; have B1 := Lib.hid b1; clear b1)
    | (go_at_call 25; go_loud ((with_reducible refine (HC.out _ B1.out).mono ?_); rintro e w2 ⟨A2, c2, rfl, o2, b2⟩; have O2 := Lib.hid (own_low o2 B1.out.size); have B2 := Lib.hid (below_step B1.out b2); clear o2 b2))
    | (at_builtin; go_loud (refine wpList_append_own _ rfl _ _ 22 rfl w.heap.size 3 i0 (.int .i64 0) 1 8 Tryd.underlying22 hi hz0 hz1 hz2 rfl (by decide) _ m _ rfl (O2.out.alloc _) ⟨w2.heap.size, 0, none⟩ 1 1 [.int .i64 0] rfl rfl (lies_one9 _ _ _) (by simp [Value.oneCell']) (by unfold maxLen; omega) (by omega) (Nat.le_trans B2.out.size (by simp)) ?_; intro v4 w4 h7 h8 hnil; clear hnil; have hB4 : Below w.heap.size w w4 := below_ownR (below_alloc' B2.out (.cells #[.int .i64 0] 3)) h8 (O2.out.alloc (.cells #[.int .i64 0] 3)) (Nat.le_trans B2.out.size (by simp)); obtain ⟨A4, c4, rfl, q1, q2⟩ := own_sliceI h7; have R4 := Row.of_own h7; have B4 := Lib.hid hB4; obtain ⟨g4, o4, hA4⟩ : ∃ g4 o4, A4 = some (⟨g4, o4, none⟩ : Addr) := (by obtain ⟨g, o, _, e, _⟩ := R4 (by simp); exact ⟨g, o, e⟩); subst hA4; obtain ⟨A5, hA5⟩ : ∃ A5, (if c4 = 1 then some (⟨g4, o4, none⟩ : Addr) else some ⟨g4, o4 + 1, none⟩) = A5 := ⟨_, rfl⟩; have R4H := Lib.hid R4; have HA5 := Lib.hid hA5; clear h7 h8 R4 hB4)))
  have hR5 : Row w4 3 w.heap.size A5 (((a ++ [(0 : Int)]).drop 1).map (Value.int .i64)) := by
    have hd := R4H.out.drop (k := 1) (cap := c4) (by rw [List.length_append, List.length_map, ← HLA.out]; simpa using q1)
    have e : (if c4 = 1 then some (⟨g4, o4, none⟩ : Addr) else some ⟨g4, o4 + 1, none⟩) = (if c4 = 1 then some (⟨g4, o4, none⟩ : Addr) else (some (⟨g4, o4, none⟩ : Addr)).map (·.add 1)) := by simp only [Option.map_some, add_plain]
    rw [← HA5.out, List.map_drop, List.map_append, e]
    exact hd
  have HNL : Hid (((a ++ [(0 : Int)]).drop 1).length = m) := Lib.hid (by rw [List.length_drop, List.length_append, HLA.out]; simp)
  generalize (a ++ [(0 : Int)]).drop 1 = nx at hR5 HNX HNL
  have R5 := Lib.hid hR5
  clear hR5 hA5 R4H HA5 HC HI HP HN
  have hA0 : l.drop (59 * 0) = l := by simp
  go_loopw [0, 7, 37] (fun v0 v7 i wr => ∃ (k : Nat) (A' : Option Addr) (n' c' : Nat) (q : List Hd), k ≤ m ∧ i = .int .i64 (k : Int) ∧ v0 = .slice A' n' c' ∧ Ints6 w A' n' (l.drop (59 * k)) ∧ n' ≤ 100000 ∧ n' ≤ c' ∧ c' ≤ maxLen ∧ wr.ownsRow w.heap.size 32 1 v7 k (q.map Hd.v) ∧ (∀ x ∈ q, RowH w.heap.size wr x) ∧ lq q = (List.range k).map (pageL l a) ∧ Row wr 3 w.heap.size A5 (nx.map (Value.int .i64)) ∧ Below w.heap.size w wr) (fun _ _ i _ => m - (intOf i).toNat)
  case atStart => exact ⟨0, A, n, c, [], Nat.zero_le _, rfl, rfl, by rw [hA0]; exact HA.out, hn, hc, hcm, World.ownsRow_nil _ _ _ _, (by intro x hx; cases hx), rfl, R5.out, B4.out⟩
  case round =>
    clear hA0 R5 B4 B2 B1 O2 q1 q2
    obtain ⟨k, A', n', c', q, hk, rfl, rfl, hi6, hn', hc', hcm', ho, hrq, hq, hN, hb⟩ := hrel
    have HI6 := Lib.hid hi6
    have HO := Lib.hid ho
    have HRQ := Lib.hid hrq
    have HQ := Lib.hid hq
    have HNR := Lib.hid hN
    have HB := Lib.hid hb
    clear hi6 ho hrq hq hN hb
    by_cases hlt : k < m
    · obtain ⟨y, hy, hy9⟩ := HNE.out k
      have hnx := HNX.out k hlt
      rw [hy] at hnx
      obtain ⟨g5, o5, cs5, rfl, _, hg5, hc5⟩ := HNR.out (by rw [List.length_map, HNL.out]; omega)
      have hcn : wr.cell? ⟨g5, o5 + k, none⟩ = some (.int .i64 (y : Int)) := by
        rw [hg5.cell]
        exact hc5 _ _ (by rw [List.getElem?_map, hnx, Option.map_some])
      obtain ⟨pm, hpm⟩ : ∃ pm, min 59 n' = pm := ⟨_, rfl⟩
      have hmin : min (59 : Int) (n' : Int) = (pm : Int) := by omega
      have hpm1 : pm ≤ 59 := by omega
      have hpm2 : pm ≤ n' := by omega
      have hpmc : pm ≤ c' := by omega
      have hpmI : (pm : Int) ≤ (c' : Int) := by omega
      have hcI' : c' ≤ 9223372036854775807 := by unfold maxLen at hcm'; omega
      have hpart : (l.drop (59 * k)).take pm = partI l k := by
        unfold partI
        have hln := HI6.out.len
        rw [← hpm]
        by_cases h59 : 59 ≤ n'
        · rw [Nat.min_eq_left h59]
        · rw [Nat.min_eq_right (by omega), List.take_of_length_le (by omega), List.take_of_length_le (by omega)]
      have IP : Ints6 w A' pm (partI l k) := by rw [← hpart]; exact HI6.out.take hpm2
      have hnext : l.drop (59 * (k + 1)) = (l.drop (59 * k)).drop pm := by
        have hln := HI6.out.len
        rw [List.length_drop] at hln
        rw [List.drop_drop]
        by_cases h59 : 59 ≤ n'
        · rw [show pm = 59 by omega]
          congr 1
        · rw [List.drop_of_length_le (by omega), List.drop_of_length_le (by omega)]
      have HIN : Hid (Ints6 w (if c' = pm then A' else A'.map (·.add pm)) (n' - pm) (l.drop (59 * (k + 1)))) := Lib.hid (by rw [hnext]; exact HI6.out.dropK hc' hpm2)
      obtain ⟨page, hpage⟩ : ∃ page, pageL l a k = page := ⟨_, rfl⟩
      have HPG : Hid ((List.range (k + 1)).map (pageL l a) = (List.range k).map (pageL l a) ++ [page]) := Lib.hid (by
        rw [List.range_succ, List.map_append, ← hpage]
        rfl)
      have HPLN : Hid (page.length = 128) := Lib.hid (by rw [← hpage]; exact HPL.out k)
      have hpk := HPU.out A' pm c' (partI l k) y wr (HT.out.below HB.out) (IP.below9 HB.out) hpm1 (fun x hx => HMEM.out x (partI_mem hx)) hy9
      have hpe : cPage 4 [numB y 2 ++ numsB (partI l k)] = page := by
        rw [← hpage]
        unfold pageL cellL
        rw [hy, Int.toNat_natCast]
      unfold PackOk at hpk
      rw [hpe] at hpk
      have HPK := Lib.hid hpk
      have hnn' : n' - pm ≤ 100000 := by omega
      clear hpk hpe hpage hpart hnext hpm hy hnx IP hc5 hg5
      by_cases hcp : c' = pm
      · rw [if_pos hcp] at HIN
        subst hcp
        go_wp2_with (first
          | (go_at_call 26; go_loud ((try rw [hmin]); (with_reducible refine HPK.out.mono ?_); rintro e w6 ⟨A6, c6, rfl, g3, g4, r6, b6⟩; have R6 := Lib.hid r6; have B6 := Lib.hid b6; have O6 := Lib.hid (ceOwnBelow HO.out b6); clear r6 b6))
          | (at_builtin; go_loud (refine wpList_append_own _ rfl _ _ 25 rfl w.heap.size 32 j0 (.slice none 0 0) 1 24 Tryd.underlying25 hj jz0 jz1 jz2 rfl (by decide) _ _ _ rfl (O6.out.alloc _) ⟨w6.heap.size, 0, none⟩ 1 1 [.slice A6 128 c6] rfl rfl (lies_one9 _ _ _) (by simp [Value.oneCell']) (by unfold maxLen; omega) (by omega) (Nat.le_trans (below_step HB.out B6.out).size (by simp)) ?_; intro v' w7 hown' hgrow hnil; clear hnil; have hst := PutL_step HB.out HO.out HRQ.out HNR.out HPLN.out B6.out R6.out g3 g4 hgrow hown'; have HST := Lib.hid hst; clear hst hown' hgrow)))
        go_roundw
        case rel => exact ⟨k + 1, _, _, _, q ++ [⟨A6, 128, c6, page⟩], by omega, by go_num, rfl, by have := HIN.out; rwa [show n' - c' = 0 by omega] at this, by omega, by omega, by omega, HST.out.1, HST.out.2.1, by rw [lq_snoc, HQ.out, HPG.out], HST.out.2.2.1, HST.out.2.2.2⟩
        case measure => simp [intOf]; omega
      · rw [if_neg hcp] at HIN
        go_wp2_with (first
          | (go_at_call 26; go_loud ((try rw [hmin]); (with_reducible refine HPK.out.mono ?_); rintro e w6 ⟨A6, c6, rfl, g3, g4, r6, b6⟩; have R6 := Lib.hid r6; have B6 := Lib.hid b6; have O6 := Lib.hid (ceOwnBelow HO.out b6); clear r6 b6))
          | (at_builtin; go_loud (refine wpList_append_own _ rfl _ _ 25 rfl w.heap.size 32 j0 (.slice none 0 0) 1 24 Tryd.underlying25 hj jz0 jz1 jz2 rfl (by decide) _ _ _ rfl (O6.out.alloc _) ⟨w6.heap.size, 0, none⟩ 1 1 [.slice A6 128 c6] rfl rfl (lies_one9 _ _ _) (by simp [Value.oneCell']) (by unfold maxLen; omega) (by omega) (Nat.le_trans (below_step HB.out B6.out).size (by simp)) ?_; intro v' w7 hown' hgrow hnil; clear hnil; have hst := PutL_step HB.out HO.out HRQ.out HNR.out HPLN.out B6.out R6.out g3 g4 hgrow hown'; have HST := Lib.hid hst; clear hst hown' hgrow)))
        go_roundw
        case rel => exact ⟨k + 1, _, _, _, q ++ [⟨A6, 128, c6, page⟩], by omega, by go_num, rfl, HIN.out, hnn', by omega, by omega, HST.out.1, HST.out.2.1, by rw [lq_snoc, HQ.out, HPG.out], HST.out.2.2.1, HST.out.2.2.2⟩
        case measure => simp [intOf]; omega
    · obtain rfl : k = m := by omega
      have hrqa := fun x hx => (HRQ.out x hx).arg
      obtain ⟨A8, c8, e8, hC⟩ := CellsA.of_own HO.out hrqa
      subst e8
      have HCC := Lib.hid hC
      obtain ⟨w3, hw3⟩ : ∃ w3 : World, w3 = wr := ⟨_, rfl⟩
      subst hw3
      clear hrqa hC
      go_wp2
      go_ret2
      refine ⟨A8, k, c8, q, by rw [HPP.out]; rfl, HCC.out, by rw [HPP.out, HQ.out]; unfold pgsL; rw [← HLA.out], HRQ.out, HB.out, Row.of_own HO.out⟩
theorem fPut_any (l a : List Int) (A : Option Addr) (n c : Nat) (B : Option Addr) (m d : Nat) (w : World) (ht : Tab w) (h : Ints6 w A n l) (hB : Ints6 w B m a) (hn : n ≤ 100000) (hm : m ≤ 100000) (hc : n ≤ c) (hcm : c ≤ maxLen) :
    Calls Tryd.prog 9 #[.slice A n c, .slice B m d] w (PutEndL l a w) := by
  by_cases hg : goodL l a
  · exact fPut_yes l a A n c B m d w ht h hB hn hm hc hcm hg
  · exact fPut_no l a A n c B m d w h hB (by omega) (by omega) hc hcm hg
end Go.Proofs.YthcjledpjlpfaaaDoor
end
