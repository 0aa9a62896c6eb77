import Derived.Test.YtnponjdnjkegmaaDoorJ05
import Derived.Test.YtnponjdnjkegmaaDoorJ03
/- Of a claim's texts, joined: Nee Nef Ceb. No statement but in the last. -/
section
namespace Go.Proofs.YtnponjdnjkegmaaDoor
open Go.RowKit
set_option linter.unusedVariables false

theorem valB_leaf (e : En) : leafB e = true ↔ okV true e := by
  unfold leafB inlineB farB pageB okV
  rw [if_pos rfl]
  simp only [Bool.or_eq_true, Bool.and_eq_true, decide_eq_true_eq]
  constructor
  · rintro (⟨⟨a, b, c⟩, d⟩ | ⟨⟨a, b, c, d⟩, f, g⟩)
    · exact .inl ⟨a, d, b, c⟩
    · exact .inr ⟨a, b, c, d, f, g⟩
  · rintro (⟨a, b, c, d⟩ | ⟨a, b, c, d, f, g⟩)
    · exact .inl ⟨⟨a, c, d⟩, b⟩
    · exact .inr ⟨⟨a, b, c, d⟩, f, g⟩
theorem valB_kid (e : En) : kidB e = true ↔ okV false e := by
  unfold kidB pageB okV
  rw [if_neg (by decide)]
  simp only [Bool.and_eq_true, decide_eq_true_eq]
  constructor
  · rintro ⟨⟨a, b, c⟩, f, g⟩; exact ⟨a, b, c, f, g⟩
  · rintro ⟨a, b, c, f, g⟩; exact ⟨⟨a, b, c⟩, f, g⟩
theorem shape_leaf (l : List En) : (decide (1 ≤ l.length) && riseB l && l.all leafB) = decide (shapeN true l) := by
  rw [Bool.eq_iff_iff]
  simp only [Bool.and_eq_true, decide_eq_true_eq, riseB, List.all_eq_true, shapeN, leastN, if_pos]
  constructor
  · rintro ⟨⟨a, b⟩, c⟩
    exact ⟨a, fun i hi => by unfold keyAt; rw [if_neg (by simp)]; exact b i hi, fun e he => (valB_leaf e).1 (c e he)⟩
  · rintro ⟨a, b, c⟩
    exact ⟨⟨a, fun i hi => by have := b i hi; unfold keyAt at this; rwa [if_neg (by simp)] at this⟩, fun e he => (valB_leaf e).2 (c e he)⟩
theorem shape_branch (l : List En) : (decide (2 ≤ l.length) && decide ((l.getD 0 en0).k = []) && riseB (l.drop 1) && l.all kidB) = decide (shapeN false l) := by
  rw [Bool.eq_iff_iff]
  simp only [Bool.and_eq_true, decide_eq_true_eq, riseB, List.all_eq_true, shapeN, leastN, Bool.false_eq_true, if_false, List.length_drop]
  have hg : ∀ i, (l.drop 1).getD i en0 = l.getD (i + 1) en0 := fun i => by rw [List.getD_eq_getElem?_getD, List.getElem?_drop, Nat.add_comm, ← List.getD_eq_getElem?_getD]
  have hr : ∀ (h0 : (l.getD 0 en0).k = []) i, riseAt (l.drop 1) i ↔ riseAt l (i + 1) := fun h0 i => by
    have ha : aheadK (l.drop 1) i = aheadK l (i + 1) := by
      unfold aheadK
      rw [if_neg (show ¬ i + 1 = 0 by omega), Nat.add_sub_cancel]
      split
      · rename_i h; subst h; exact h0.symm
      · rename_i h; rw [hg, show i - 1 + 1 = i by omega]
    unfold riseAt
    rw [hg, ha]
  constructor
  · rintro ⟨⟨⟨a, z⟩, b⟩, c⟩
    refine ⟨a, fun i hi => ?_, fun e he => (valB_kid e).1 (c e he)⟩
    unfold keyAt
    cases i with
    | zero => rw [if_pos ⟨rfl, rfl⟩]; exact z
    | succ i => rw [if_neg (by omega)]; exact (hr z i).1 (b i (by omega))
  · rintro ⟨a, b, c⟩
    have z : (l.getD 0 en0).k = [] := by
      have := b 0 (by omega)
      unfold keyAt at this
      rwa [if_pos ⟨rfl, rfl⟩] at this
    refine ⟨⟨⟨a, z⟩, fun i hi => (hr z i).2 ?_⟩, fun e he => (valB_kid e).2 (c e he)⟩
    have := b (i + 1) (by omega)
    unfold keyAt at this
    rwa [if_neg (by omega)] at this

set_option maxHeartbeats 1000000 in
theorem nlCheck_any (A : Option Addr) (n c : Nat) (l : List En) (w : World) (h : NodA w A n c l) (hn : n ≤ 1000000) :
    Calls Tryd.prog 83 #[.agg #[], .slice A n c] w fun e w' => e = .returned (.bool (decide (shapeN true l))) ∧ Below w.heap.size w w' := by
  have HR := Lib.hid (fun w1 (hb : Below w.heap.size w w1) => nRising_any A n c l w1 (h.below hb) hn)
  have HL := Lib.hid (fun w1 (hb : Below w.heap.size w w1) => nAll_leaf A n c l w1 (h.below hb) hn)
  rw [← shape_leaf l, ← h.len]
  obtain ⟨W, hW⟩ : ∃ W, w.alloc (.cells #[] 89) = W := ⟨_, rfl⟩
  have hb : Below w.heap.size w W := hW ▸ (Below.refl _ w).alloc (Nat.le_refl _) _
  have HB := Lib.hid hb
  clear hb h
  generalize riseB l = a at *
  generalize l.all leafB = b at *
  by_cases h1 : 1 ≤ n
  · have d1 : decide (1 ≤ n) = true := decide_eq_true h1
    rw [d1]
    cases a
    all_goals
      go_enter Tryd.func83, Tryd.ntmps83
      go_wp2_with (first
        | (go_at_call 87; (try rw [hW]); (with_reducible refine (HR.out _ HB.out).mono ?_); rintro r1 w1 ⟨rfl, b1⟩; have B1 := Lib.hid (below_step HB.out b1); clear b1)
        | (go_at_call 88; (with_reducible refine (HL.out _ B1.out).mono ?_); rintro r2 w2 ⟨rfl, b2⟩; have B2 := Lib.hid (below_step B1.out b2); clear b2))
      go_ret
      first | exact ⟨rfl, B2.out⟩ | exact ⟨rfl, B1.out⟩
  · have d1 : decide (1 ≤ n) = false := decide_eq_false h1
    obtain rfl : n = 0 := by omega
    go_enter Tryd.func83, Tryd.ntmps83
    go_wp2
    go_ret
    exact ⟨rfl, hW ▸ HB.out⟩

theorem NodA.tail {w : World} {b off n c : Nat} {l : List En} (h : NodA w (some ⟨b, off, none⟩) n c l) (h1 : 1 < n) : NodA w (some ⟨b, off + 5, none⟩) (n - 1) (c - 1) (l.drop 1) := by
  refine ⟨by rw [List.length_drop, h.len], fun hx => ?_, by have := h.room; omega, by have := h.most; omega, fun e he => h.strs e (List.mem_of_mem_drop he)⟩
  have hl := h.len
  obtain ⟨g, o, hA, hc⟩ := h.reads (by rw [cellsN_len]; omega)
  injection hA with hA
  injection hA with e1 e2 _
  subst e1 e2
  refine ⟨b, off + 5, rfl, fun j u hj => ?_⟩
  rw [Nat.add_assoc]
  refine hc _ u ?_
  rw [cellsN_drop, List.getElem?_drop] at hj
  exact hj
set_option maxHeartbeats 4000000 in
theorem nbCheck_any (A : Option Addr) (n c : Nat) (l : List En) (w : World) (h : NodA w A n c l) (hn : n ≤ 1000000) :
    Calls Tryd.prog 98 #[.agg #[], .slice A n c] w fun e w' => e = .returned (.bool (decide (shapeN false l))) ∧ Below w.heap.size w w' := by
  obtain ⟨W, hW⟩ : ∃ W, w.alloc (.cells #[] 90) = W := ⟨_, rfl⟩
  have hb : Below w.heap.size w W := hW ▸ (Below.refl _ w).alloc (Nat.le_refl _) _
  have hcm : c ≤ 9223372036854775807 := h.most
  have hnc := h.room
  rw [← shape_branch l, ← h.len]
  by_cases h2 : 2 ≤ n
  · have d1 : decide (2 ≤ n) = true := decide_eq_true h2
    have d2 : (2 : Int) ≤ (n : Int) := by omega
    rw [d1]
    have hl0 : 0 < l.length := by have := h.len; omega
    have hA := h.below hb
    obtain ⟨b, off, rfl, c0, c1, c2, c3, c4⟩ := hA.reads.eat hl0
    have hT := h.tail (by omega)
    have HR := Lib.hid (fun w1 (hb : Below w.heap.size w w1) => nRising_any _ (n - 1) (c - 1) _ w1 (hT.below hb) (by omega))
    have HL := Lib.hid (fun w1 (hb : Below w.heap.size w w1) => nAll_kid _ n c l w1 (h.below hb) hn)
    have HB := Lib.hid hb
    have hg : l.getD 0 en0 = l[0] := by rw [List.getD_eq_getElem?_getD, List.getElem?_eq_getElem hl0]; rfl
    rw [hg]
    clear hb h hA hT hg
    generalize riseB (l.drop 1) = a at *
    generalize l.all kidB = z at *
    generalize l[0] = y at *
    clear hl0
    obtain ⟨yk, yd, far, sz, pg⟩ := y
    simp only [cstV, Nat.zero_mul, Nat.add_zero] at c0 c1 c2 c3 c4 ⊢
    have e1 : (⟨yk.toArray⟩ : ByteArray).toList = yk := by rw [ByteArray.toList_eq]
    generalize (⟨yk.toArray⟩ : ByteArray) = sk at *
    obtain ⟨q, hq⟩ : ∃ q : Bool, decide (yk = []) = q := ⟨_, rfl⟩
    rw [hq]
    rw [← e1] at hq
    clear e1
    have hq2 : (sk.toList == []) = q := by rw [← hq]; cases h : sk.toList <;> simp
    clear hq
    have hc1 : ¬ c = 1 := by omega
    have hn1 : (n : Int) - 1 = ((n - 1 : Nat) : Int) := by omega
    cases q
    · go_enter Tryd.func98, Tryd.ntmps98
      go_wp2
      go_ret
      exact ⟨rfl, hW ▸ HB.out⟩
    · cases a
      all_goals
        go_enter Tryd.func98, Tryd.ntmps98
        go_wp2_with (first
          | (go_at_call 87; (try rw [hW]); (with_reducible refine (HR.out _ HB.out).mono ?_); rintro r1 w1 ⟨rfl, b1⟩; have B1 := Lib.hid (below_step HB.out b1); clear b1)
          | (go_at_call 88; (with_reducible refine (HL.out _ B1.out).mono ?_); rintro r2 w2 ⟨rfl, b2⟩; have B2 := Lib.hid (below_step B1.out b2); clear b2))
        go_ret
        first | exact ⟨rfl, B2.out⟩ | exact ⟨rfl, B1.out⟩
  · have d1 : decide (2 ≤ n) = false := decide_eq_false h2
    have d2 : ¬ (2 : Int) ≤ (n : Int) := by omega
    have HB := Lib.hid hb
    rw [d1]
    clear h hb
    go_enter Tryd.func98, Tryd.ntmps98
    go_wp2
    go_ret
    exact ⟨by simp, hW ▸ HB.out⟩
def shpV (leaf : Bool) : Value := if leaf then .iface 89 (.agg #[]) else .iface 90 (.agg #[])
theorem nShapeOf_any (leaf : Bool) (A : Option Addr) (n c : Nat) (w : World) : Calls Tryd.prog 24 #[.agg #[.bool leaf, .slice A n c]] w fun e w' => e = .returned (shpV leaf) ∧ Below w.heap.size w w' := by
  cases leaf
  all_goals
    go_enter Tryd.func24, Tryd.ntmps24
    go_wp2
    go_ret
    exact ⟨rfl, (Below.refl _ _).alloc (Nat.le_refl _) _⟩
def ShpOn (k : UInt8) (w : World) (e : Ending) (w' : World) : Prop :=
  ((k = 1 ∨ k = 2) ∧ e = .returned (.tuple #[shpV (decide (k = 1)), .bool true]) ∨ ¬ (k = 1 ∨ k = 2) ∧ e = .returned (.tuple #[.nilIface, .bool false])) ∧ Below w.heap.size w w'

end Go.Proofs.YtnponjdnjkegmaaDoor
end

section
namespace Go.Proofs.YtnponjdnjkegmaaDoor
open Go.RowKit
set_option linter.unusedVariables false

set_option maxHeartbeats 4000000 in
theorem nShapeOn_any (x : UInt8) (w : World) : Calls Tryd.prog 34 #[.int .u8 (x.toNat : Int)] w (ShpOn x w) := by
  obtain ⟨W, hW⟩ : ∃ W, w.alloc (.cells #[.iface 89 (.agg #[]), .iface 90 (.agg #[])] 61) = W := ⟨_, rfl⟩
  have hb : Below w.heap.size w W := hW ▸ (Below.refl _ w).alloc (Nat.le_refl _) _
  have hh : Has W w.heap.size 61 #[.iface 89 (.agg #[]), .iface 90 (.agg #[])] := hW ▸ Has.made w 61 _
  have HB := Lib.hid hb
  have HH := Lib.hid hh
  have HK1 := Lib.hid nlKind_any
  have HK2 := Lib.hid nbKind_any
  have c0 := hh.cell 0
  clear hb
  have k1 : ((1 : Int) == (x.toNat : Int)) = decide (x = 1) := by
    by_cases h : x = 1
    · subst h; rfl
    · rw [decide_eq_false h]
      refine beq_false_of_ne (fun e => h (UInt8.toNat_inj.1 ?_))
      have : (1 : UInt8).toNat = 1 := rfl
      omega
  have k2 : ((2 : Int) == (x.toNat : Int)) = decide (x = 2) := by
    by_cases h : x = 2
    · subst h; rfl
    · rw [decide_eq_false h]
      refine beq_false_of_ne (fun e => h (UInt8.toNat_inj.1 ?_))
      have : (2 : UInt8).toNat = 2 := rfl
      omega
  have K1 := Lib.hid k1
  have K2 := Lib.hid k2
  clear c0 hh k1 k2
  go_enter Tryd.func34, Tryd.ntmps34
  go_wp2
  go_loopw [12] (fun i wr => ∃ k : Nat, k ≤ 2 ∧ i = .int .i64 k ∧ (1 ≤ k → x ≠ 1) ∧ (2 ≤ k → x ≠ 2) ∧ Below w.heap.size w wr ∧ Has wr w.heap.size 61 #[.iface 89 (.agg #[]), .iface 90 (.agg #[])]) (fun i _ => 2 - (intOf i).toNat)
  case atStart => exact ⟨0, by omega, rfl, fun h => absurd h (by omega), fun h => absurd h (by omega), HB.out, HH.out⟩
  case round =>
    obtain ⟨k, hk, rfl, hx1, hx2, hB, hH⟩ := hrel
    have c0 := hH.cell 0
    have c1 := hH.cell 1
    have BW := Lib.hid hB
    have HW := Lib.hid hH
    have X1 := Lib.hid hx1
    have X2 := Lib.hid hx2
    clear hB hH hx1 hx2
    rcases k with _ | _ | _ | k
    · have K1 := K1.out
      by_cases h1 : x = 1
      · have HE : Hid ((x = 1 ∨ x = 2) ∧ Ending.returned (.tuple #[.iface 89 (.agg #[]), .bool true]) = Ending.returned (.tuple #[shpV (decide (x = 1)), .bool true])) := Lib.hid (by subst h1; exact ⟨.inl rfl, rfl⟩)
        rw [decide_eq_true h1] at K1
        clear h1 X1 X2
        go_wp2_with (go_at_call 84; (with_reducible refine (HK1.out _).mono ?_); rintro r1 w1 ⟨rfl, b1⟩; have B1 := Lib.hid (below_step BW.out b1); clear b1)
        go_ret2
        exact ⟨.inl HE.out, B1.out⟩
      · rw [decide_eq_false h1] at K1
        have HX : Hid (1 ≤ 1 → x ≠ 1) := Lib.hid (fun _ => h1)
        clear h1 X1 X2
        go_wp2_with (go_at_call 84; (with_reducible refine (HK1.out _).mono ?_); rintro r1 w1 ⟨rfl, b1⟩; have H1 := Lib.hid (HW.out.below b1 HW.out.lt); have B1 := Lib.hid (below_step BW.out b1); clear b1)
        go_roundw
        case rel => exact ⟨1, by omega, by go_num, HX.out, fun h => absurd h (by omega), B1.out, H1.out⟩
        case measure => simp [intOf]
    · have K2 := K2.out
      by_cases h1 : x = 2
      · have HE : Hid ((x = 1 ∨ x = 2) ∧ Ending.returned (.tuple #[.iface 90 (.agg #[]), .bool true]) = Ending.returned (.tuple #[shpV (decide (x = 1)), .bool true])) := Lib.hid (by subst h1; exact ⟨.inr rfl, rfl⟩)
        rw [decide_eq_true h1] at K2
        clear h1 X1 X2
        go_wp2_with (go_at_call 99; (with_reducible refine (HK2.out _).mono ?_); rintro r1 w1 ⟨rfl, b1⟩; have B1 := Lib.hid (below_step BW.out b1); clear b1)
        go_ret2
        exact ⟨.inl HE.out, B1.out⟩
      · rw [decide_eq_false h1] at K2
        have HX : Hid (2 ≤ 2 → x ≠ 2) := Lib.hid (fun _ => h1)
        have HX1 : Hid (1 ≤ 2 → x ≠ 1) := Lib.hid (fun _ => X1.out (by omega))
        clear h1 X1 X2
        go_wp2_with (go_at_call 99; (with_reducible refine (HK2.out _).mono ?_); rintro r1 w1 ⟨rfl, b1⟩; have H1 := Lib.hid (HW.out.below b1 HW.out.lt); have B1 := Lib.hid (below_step BW.out b1); clear b1)
        go_roundw
        case rel => exact ⟨2, by omega, by go_num, HX1.out, HX.out, B1.out, H1.out⟩
        case measure => simp [intOf]
    · have HE : Hid (¬ (x = 1 ∨ x = 2)) := Lib.hid (by rintro (h | h); exact X1.out (by omega) h; exact X2.out (by omega) h)
      clear X1 X2
      obtain ⟨w3, hw3⟩ : ∃ w3 : World, w3 = wr := ⟨_, rfl⟩
      subst hw3
      go_wp2
      go_ret2
      exact ⟨.inr ⟨HE.out, rfl⟩, BW.out⟩
    · exact absurd hk (by omega)

end Go.Proofs.YtnponjdnjkegmaaDoor
end

section
namespace Go.Proofs.YtnponjdnjkegmaaDoor
open Go.RowKit
set_option linter.unusedVariables false

theorem cCut_cons (b : List UInt8) (ss : List UInt8) (k end_ : Nat) (s : UInt8) (h : ss[k]? = some s) (hs : s.toNat ≤ end_) : cCut b (ss.drop k) end_ = (b.drop s.toNat).take (end_ - s.toNat) :: cCut b (ss.drop (k + 1)) s.toNat := by
  obtain ⟨hk, hg⟩ := List.getElem?_eq_some_iff.1 h
  rw [List.drop_eq_getElem_cons hk, hg]
  simp only [cCut]
  rw [if_neg (by omega)]
theorem cCut_stop (b : List UInt8) (ss : List UInt8) (k end_ : Nat) (s : UInt8) (h : ss[k]? = some s) (hs : ¬ s.toNat ≤ end_) : cCut b (ss.drop k) end_ = [] := by
  obtain ⟨hk, hg⟩ := List.getElem?_eq_some_iff.1 h
  rw [List.drop_eq_getElem_cons hk, hg]
  simp only [cCut]
  rw [if_pos (by omega)]
theorem Arg.cell_ {w : World} {g off c : Nat} {l : List UInt8} (h : Arg w (some ⟨g, off, none⟩) 128 c l) (s e : Nat) (hs : s ≤ e) (he : e ≤ 128) (A : Option Addr) (hA : e - s = 0 ∨ A = some ⟨g, off + s, none⟩) (hn : A ≠ none) :
    Arg w A (e - s) (e - s) ((l.drop s).take (e - s)) := by
  have hl := h.len
  have hm := h.most
  have hr := h.room
  refine ⟨by simp; omega, ?_, ?_, Nat.le_refl _, by unfold maxLen at *; omega, fun h => absurd h hn⟩
  · rcases hA with h0 | rfl
    · rw [h0, List.take_zero]
      exact Reads.empty
    · intro hx
      obtain ⟨g', off', hA', hc⟩ := h.reads (by simp; omega)
      injection hA' with hA'
      injection hA' with h1 h2 _
      subst h1 h2
      refine ⟨g, off + s, rfl, fun j u hj => ?_⟩
      have hjl := (List.getElem?_eq_some_iff.1 hj).1
      rw [List.length_map, List.length_take] at hjl
      rw [Nat.add_assoc]
      refine hc (s + j) u ?_
      rw [← hj, List.getElem?_map, List.getElem?_map, List.getElem?_take, if_pos (by omega), List.getElem?_drop]
  · rintro h0 a rfl
    rcases hA with h1 | hA
    · omega
    · injection hA with hA
      subst hA
      exact h.old (a := ⟨g, off, none⟩) (by omega) rfl
theorem byinfo : (Tryd.prog.info? 31).map (fun i => (i.zero, i.size, i.bytes)) = some (some (.slice none 0 0), 1, 24) := by kernel_rfl
theorem by_own_nil (w : World) (B : Nat) : w.ownsRow B 31 1 (.slice none 0 0) 0 [] := ⟨rfl, .inl ⟨rfl, rfl⟩⟩
theorem lq_snoc (q : List Hd) (y : Hd) : lq (q ++ [y]) = lq q ++ [y.l] := by simp [lq]
theorem hd_snoc (q : List Hd) (y : Hd) : (q ++ [y]).map Hd.v = q.map Hd.v ++ [y.v] := by simp
theorem CellsA.of_own {w : World} {base n : Nat} {v : Value} {q : List Hd} (h : w.ownsRow base 31 1 v n (q.map Hd.v)) (he : ∀ x ∈ q, Arg w x.a x.n x.c x.l) : ∃ A c, v = .slice A n c ∧ CellsA w A n c q := by
  have hn : n = q.length := by have := h.1; simpa using this.symm
  rcases h.2 with ⟨rfl, rfl⟩ | ⟨g, cap, cur, rfl, h1, h2, h3, h4, h5, h6⟩
  · have := List.eq_nil_of_length_eq_zero hn.symm
    subst this
    exact ⟨none, 0, rfl, CellsA.none_ w⟩
  · refine ⟨_, cap, rfl, hn, fun hx => ⟨g, 0, rfl, fun j u hj => ?_⟩, he, h3, h4, fun h => by cases h⟩
    have hjl := (List.getElem?_eq_some_iff.1 hj).1
    have : Has w g 31 cur := h2
    rw [this.cell, Nat.zero_add, ← hj, ← h6, List.getElem?_take, if_pos (by have := h.1; omega)]
    simp
def CutEnd (w : World) (ls : List (List UInt8)) (e : Ending) (w' : World) : Prop := ∃ A n c q, e = .returned (.slice A n c) ∧ CellsA w' A n c q ∧ lq q = ls ∧ Below w.heap.size w w'
def CutSt (w : World) (l : List UInt8) (k : Nat) (v e : Value) (wr : World) : Prop :=
  ∃ (end_ : Nat) (q : List Hd), e = .int .i64 end_ ∧ end_ ≤ 128 ∧ q.length = k ∧ lq q ++ cCut l ((cSlotsOf l).drop k) end_ = cCells l ∧ (∀ x ∈ q, Arg w x.a x.n x.c x.l) ∧ wr.ownsRow w.heap.size 31 1 v k (q.map Hd.v) ∧ Below w.heap.size w wr
theorem CutSt.end_ {w wr : World} {l : List UInt8} {k : Nat} {v e : Value} (h : CutSt w l k v e wr) (hc : ∀ end_ : Nat, e = .int .i64 end_ → cCut l ((cSlotsOf l).drop k) end_ = []) : CutEnd w (cCells l) (.returned v) wr := by
  obtain ⟨end_, q, h1, h2, h3, h4, h5, h6, h7⟩ := h
  obtain ⟨A, c, rfl, hC⟩ := CellsA.of_own h6 (fun x hx => (h5 x hx).below h7)
  rw [hc _ h1, List.append_nil] at h4
  exact ⟨A, k, c, q, rfl, hC, h4, h7⟩

set_option maxRecDepth 100000 in
set_option maxHeartbeats 4000000 in
theorem ceCut_any (A : Option Addr) (c : Nat) (l : List UInt8) (w : World) (h : Arg w A 128 c l) :
    Calls Tryd.prog 44 #[.slice A 128 c] w (CutEnd w (cCells l)) := by
  obtain ⟨j0, hj, jz0, jz1, jz2⟩ := info_parts byinfo
  have HH := Lib.hid h
  have HL := Lib.hid h.len
  have hc := h.room
  have hcm := h.most
  unfold maxLen at hcm
  obtain ⟨g, off, rfl, hcell⟩ := h.reads (by have := h.len; simp; omega)
  obtain ⟨x, hx⟩ : ∃ x, l[5]? = some x := ⟨_, List.getElem?_eq_getElem (by have := h.len; omega)⟩
  have h5 : w.cell? ⟨g, off + 5, none⟩ = some (.int .u8 (x.toNat : Int)) := hcell 5 (byteV x) (by simp [hx])
  have hxl := x.toNat_lt
  have HX : Hid (cCount l = x.toNat) := Lib.hid (by unfold cCount; rw [hx]; rfl)
  have HSL : Hid (∀ k s, (cSlotsOf l)[k]? = some s → ∀ wr, Below w.heap.size w wr → wr.cell? ⟨g, off + 6 + k, none⟩ = some (.int .u8 (s.toNat : Int))) := Lib.hid (fun k s hk wr hb => by
    unfold cSlotsOf at hk
    rw [List.getElem?_take] at hk
    split at hk
    · rw [List.getElem?_drop] at hk
      rw [Nat.add_assoc]
      have h6 := hcell (6 + k) (byteV s) (by rw [List.getElem?_map, hk]; rfl)
      exact (hb.cell (p := ⟨g, off + (6 + k), none⟩) (World.block_lt_of_cell? w _ h6)).trans h6
    · cases hk)
  clear hcell h hx
  generalize x.toNat = z at *
  by_cases hz : z ≤ 122
  · have HM : Hid ((cSlotsOf l).length = z) := Lib.hid (by unfold cSlotsOf; rw [HX.out]; have := HL.out; simp; omega)
    go_enter Tryd.func44, Tryd.ntmps44
    go_wp2
    have e1 : 6 + z - 6 = z := by omega
    rw [e1]
    clear e1
    go_loopw [3, 4, 21] (fun v e i wr => ∃ k : Nat, k ≤ z ∧ i = .int .i64 k ∧ CutSt w l k v e wr) (fun _ _ i _ => z - (intOf i).toNat)
    case atStart => exact ⟨0, Nat.zero_le _, rfl, 128, [], rfl, Nat.le_refl _, rfl, rfl, fun x hx => (by cases hx), by_own_nil _ _, Below.refl _ _⟩
    case round =>
      obtain ⟨k, hk, rfl, hST⟩ := hrel
      have ST := Lib.hid hST
      clear hST
      by_cases hlt : k < z
      · obtain ⟨end_, q, rfl, he, hqk, hcut, hargs, hO, hB⟩ := ST.out
        have HO := Lib.hid hO
        have HB := Lib.hid hB
        have HQ := Lib.hid hqk
        have HCT := Lib.hid hcut
        have HAR := Lib.hid hargs
        clear hO hB hqk hcut hargs
        obtain ⟨s, hs⟩ : ∃ s, (cSlotsOf l)[k]? = some s := ⟨_, List.getElem?_eq_getElem (by rw [HM.out]; exact hlt)⟩
        have cs := HSL.out k s hs wr HB.out
        have hsl := s.toNat_lt
        by_cases hse : s.toNat ≤ end_
        · have CC := Lib.hid (cCut_cons l (cSlotsOf l) k end_ s hs hse)
          clear hs
          generalize s.toNat = t at *
          have b1 : (t : Int) ≤ (end_ : Int) := by omega
          have b2 : (end_ : Int) ≤ (c : Int) := by omega
          have b3 : ¬ ((end_ : Int) < (t : Int)) := by omega
          by_cases hte : end_ - t = 0
          · have CE := Lib.hid (fun A hn => HH.out.cell_ t end_ hse he A (Or.inl hte) hn)
            obtain rfl : t = end_ := by omega
            go_wp2_with (at_builtin; refine wpList_append_one rfl _ _ 40 31 rfl w.heap.size 31 j0 _ 24 Tryd.underlying40 hj jz0 jz1 jz2 rfl _ k _ rfl HO.out (.slice (some ⟨g, off, none⟩) 0 0) rfl rfl ?_ ?_ ?_ ?_; (omega); (unfold maxLen; omega); (exact HB.out.size); intro v4 w4 h7 h8; have O4 := Lib.hid h7; have B4 := Lib.hid (HB.out.trans h8); clear h7 h8)
            go_roundw
            case rel =>
              refine ⟨k + 1, by omega, by go_num, t, q ++ [⟨some ⟨g, off, none⟩, 0, 0, (l.drop t).take (t - t)⟩], rfl, he, by simp [HQ.out], ?_, ?_, ?_, B4.out⟩
              · have h1 := HCT.out
                rw [CC.out] at h1
                rw [lq_snoc, List.append_assoc]
                exact h1
              · intro x hx
                rcases List.mem_append.1 hx with h | h
                · exact HAR.out x h
                · obtain rfl := List.mem_singleton.1 h
                  have := CE.out (some ⟨g, off, none⟩) (by simp)
                  rw [Nat.sub_self] at this ⊢
                  exact this
              · rw [hd_snoc]
                exact O4.out
            case measure => simp [intOf]; omega
          · have CE := Lib.hid (HH.out.cell_ t end_ hse he (some ⟨g, off + t, none⟩) (Or.inr rfl) (by simp))
            have b4 : t < end_ := by omega
            go_wp2_with (at_builtin; refine wpList_append_one rfl _ _ 40 31 rfl w.heap.size 31 j0 _ 24 Tryd.underlying40 hj jz0 jz1 jz2 rfl _ k _ rfl HO.out (.slice (some ⟨g, off + t, none⟩) (end_ - t) (end_ - t)) rfl rfl ?_ ?_ ?_ ?_; (omega); (unfold maxLen; omega); (exact HB.out.size); intro v4 w4 h7 h8; have O4 := Lib.hid h7; have B4 := Lib.hid (HB.out.trans h8); clear h7 h8)
            go_roundw
            case rel =>
              refine ⟨k + 1, by omega, by go_num, t, q ++ [⟨some ⟨g, off + t, none⟩, end_ - t, end_ - t, (l.drop t).take (end_ - t)⟩], rfl, by omega, by simp [HQ.out], ?_, ?_, ?_, B4.out⟩
              · have h1 := HCT.out
                rw [CC.out] at h1
                rw [lq_snoc, List.append_assoc]
                exact h1
              · intro x hx
                rcases List.mem_append.1 hx with h | h
                · exact HAR.out x h
                · obtain rfl := List.mem_singleton.1 h
                  exact CE.out
              · rw [hd_snoc]
                exact O4.out
            case measure => simp [intOf]; omega
        · have CS := Lib.hid (cCut_stop l (cSlotsOf l) k end_ s hs hse)
          clear hs
          generalize s.toNat = t at *
          have b3 : (end_ : Int) < (t : Int) := by omega
          obtain ⟨w3, hw3⟩ : ∃ w3 : World, w3 = wr := ⟨_, rfl⟩
          subst hw3
          go_wp2
          go_ret
          refine CutSt.end_ ST.out (fun e he => ?_)
          injection he with he
          obtain rfl : end_ = e := by omega
          exact CS.out
      · have CS := Lib.hid (fun (e : Nat) => show cCut l ((cSlotsOf l).drop z) e = [] by rw [List.drop_eq_nil_of_le (Nat.le_of_eq HM.out)]; rfl)
        obtain rfl : k = z := by omega
        obtain ⟨w3, hw3⟩ : ∃ w3 : World, w3 = wr := ⟨_, rfl⟩
        subst hw3
        go_wp2
        go_ret
        exact CutSt.end_ ST.out (fun e he => CS.out e)
  · have HM : Hid ((cSlotsOf l).length = 122) := Lib.hid (by unfold cSlotsOf; rw [HX.out]; have := HL.out; simp; omega)
    go_enter Tryd.func44, Tryd.ntmps44
    go_wp2
    go_loopw [3, 4, 21] (fun v e i wr => ∃ k : Nat, k ≤ 122 ∧ i = .int .i64 k ∧ CutSt w l k v e wr) (fun _ _ i _ => 122 - (intOf i).toNat)
    case atStart => exact ⟨0, Nat.zero_le _, rfl, 128, [], rfl, Nat.le_refl _, rfl, rfl, fun x hx => (by cases hx), by_own_nil _ _, Below.refl _ _⟩
    case round =>
      obtain ⟨k, hk, rfl, hST⟩ := hrel
      have ST := Lib.hid hST
      clear hST
      by_cases hlt : k < 122
      · obtain ⟨end_, q, rfl, he, hqk, hcut, hargs, hO, hB⟩ := ST.out
        have HO := Lib.hid hO
        have HB := Lib.hid hB
        have HQ := Lib.hid hqk
        have HCT := Lib.hid hcut
        have HAR := Lib.hid hargs
        clear hO hB hqk hcut hargs
        obtain ⟨s, hs⟩ : ∃ s, (cSlotsOf l)[k]? = some s := ⟨_, List.getElem?_eq_getElem (by rw [HM.out]; exact hlt)⟩
        have cs := HSL.out k s hs wr HB.out
        have hsl := s.toNat_lt
        by_cases hse : s.toNat ≤ end_
        · have CC := Lib.hid (cCut_cons l (cSlotsOf l) k end_ s hs hse)
          clear hs
          generalize s.toNat = t at *
          have b1 : (t : Int) ≤ (end_ : Int) := by omega
          have b2 : (end_ : Int) ≤ (c : Int) := by omega
          have b3 : ¬ ((end_ : Int) < (t : Int)) := by omega
          by_cases hte : end_ - t = 0
          · have CE := Lib.hid (fun A hn => HH.out.cell_ t end_ hse he A (Or.inl hte) hn)
            obtain rfl : t = end_ := by omega
            go_wp2_with (at_builtin; refine wpList_append_one rfl _ _ 40 31 rfl w.heap.size 31 j0 _ 24 Tryd.underlying40 hj jz0 jz1 jz2 rfl _ k _ rfl HO.out (.slice (some ⟨g, off, none⟩) 0 0) rfl rfl ?_ ?_ ?_ ?_; (omega); (unfold maxLen; omega); (exact HB.out.size); intro v4 w4 h7 h8; have O4 := Lib.hid h7; have B4 := Lib.hid (HB.out.trans h8); clear h7 h8)
            go_roundw
            case rel =>
              refine ⟨k + 1, by omega, by go_num, t, q ++ [⟨some ⟨g, off, none⟩, 0, 0, (l.drop t).take (t - t)⟩], rfl, he, by simp [HQ.out], ?_, ?_, ?_, B4.out⟩
              · have h1 := HCT.out
                rw [CC.out] at h1
                rw [lq_snoc, List.append_assoc]
                exact h1
              · intro x hx
                rcases List.mem_append.1 hx with h | h
                · exact HAR.out x h
                · obtain rfl := List.mem_singleton.1 h
                  have := CE.out (some ⟨g, off, none⟩) (by simp)
                  rw [Nat.sub_self] at this ⊢
                  exact this
              · rw [hd_snoc]
                exact O4.out
            case measure => simp [intOf]; omega
          · have CE := Lib.hid (HH.out.cell_ t end_ hse he (some ⟨g, off + t, none⟩) (Or.inr rfl) (by simp))
            have b4 : t < end_ := by omega
            go_wp2_with (at_builtin; refine wpList_append_one rfl _ _ 40 31 rfl w.heap.size 31 j0 _ 24 Tryd.underlying40 hj jz0 jz1 jz2 rfl _ k _ rfl HO.out (.slice (some ⟨g, off + t, none⟩) (end_ - t) (end_ - t)) rfl rfl ?_ ?_ ?_ ?_; (omega); (unfold maxLen; omega); (exact HB.out.size); intro v4 w4 h7 h8; have O4 := Lib.hid h7; have B4 := Lib.hid (HB.out.trans h8); clear h7 h8)
            go_roundw
            case rel =>
              refine ⟨k + 1, by omega, by go_num, t, q ++ [⟨some ⟨g, off + t, none⟩, end_ - t, end_ - t, (l.drop t).take (end_ - t)⟩], rfl, by omega, by simp [HQ.out], ?_, ?_, ?_, B4.out⟩
              · have h1 := HCT.out
                rw [CC.out] at h1
                rw [lq_snoc, List.append_assoc]
                exact h1
              · intro x hx
                rcases List.mem_append.1 hx with h | h
                · exact HAR.out x h
                · obtain rfl := List.mem_singleton.1 h
                  exact CE.out
              · rw [hd_snoc]
                exact O4.out
            case measure => simp [intOf]; omega
        · have CS := Lib.hid (cCut_stop l (cSlotsOf l) k end_ s hs hse)
          clear hs
          generalize s.toNat = t at *
          have b3 : (end_ : Int) < (t : Int) := by omega
          obtain ⟨w3, hw3⟩ : ∃ w3 : World, w3 = wr := ⟨_, rfl⟩
          subst hw3
          go_wp2
          go_ret
          refine CutSt.end_ ST.out (fun e he => ?_)
          injection he with he
          obtain rfl : end_ = e := by omega
          exact CS.out
      · have CS := Lib.hid (fun (e : Nat) => show cCut l ((cSlotsOf l).drop 122) e = [] by rw [List.drop_eq_nil_of_le (Nat.le_of_eq HM.out)]; rfl)
        obtain rfl : k = 122 := by omega
        obtain ⟨w3, hw3⟩ : ∃ w3 : World, w3 = wr := ⟨_, rfl⟩
        subst hw3
        go_wp2
        go_ret
        exact CutSt.end_ ST.out (fun e he => CS.out e)

end Go.Proofs.YtnponjdnjkegmaaDoor
end
