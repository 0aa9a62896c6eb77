import Derived.Test.YtpaklhifnndeoaaJ05
import Derived.Test.YtpaklhifnndeoaaJTqd
/- Of a claim's texts, joined: Rdj Tqe. No statement but in the last. -/
section
namespace Go.Proofs.Ytpaklhifnndeoaa
open Go.RowKit
set_option linter.unusedVariables false

section
variable {P : Program} {ops : Array Oper} {Q : Exit → Act → World → Prop} {md : Region.Mode} {C S : World → Prop} {k : Nat}
def wpAnyJ (P : Program) (md : Region.Mode) (ops : Array Oper) (Q : Exit → Act → World → Prop) (C S : World → Prop) (k : Nat) : Nat → Array Bool → Act → World → Prop
  | 0, listed, a, w => Region.ready md ops listed = [] ∧ Q .normal a w
  | fuel + 1, listed, a, w =>
    (Region.ready md ops listed = [] → Q .normal a w) ∧
    ∀ i ∈ Region.ready md ops listed, wpOp P ops Q i (fun a' w' => (((listed.setIfInBounds i true).getD k false = true ∨ C w') ∧ S w') ∧ wpAnyJ P md ops Q C S k fuel (listed.setIfInBounds i true) a' w') a w
theorem wpAny_of_J : ∀ (fuel : Nat) (listed : Array Bool) (a : Act) (w : World), wpAnyJ P md ops Q C S k fuel listed a w → wpAny P md ops Q fuel listed a w
  | 0, _, _, _, h => h
  | fuel + 1, _, _, _, h => ⟨h.1, fun i hi => wpOp_mono (fun a' w' h' => wpAny_of_J fuel _ a' w' h'.2) (h.2 i hi)⟩
theorem wpAnyJ_first {i : Nat} {oi : Oper} {v : Value} (hi : ops[i]? = some oi) (hsel : ∀ (j : Nat) (o : Oper) cs b, ops[j]? = some o → o.op ≠ .select cs b)
    (hQ : ∀ c a w, Q (.panic c) (a.put oi.dst v) w → Q (.panic c) a w) (hk : Region.waitsFor md ops k i = true) (hki : k ≠ i) :
    ∀ (fuel : Nat) (listed : Array Bool) (a : Act) (w : World),
      (∀ j oj, ops[j]? = some oj → j ≠ i → listed.getD j true = false → (∀ e ∈ oj.after, Region.binds md e = true → e.on ≠ i) → oi.apart ops oj = true) →
      i ∈ Region.ready md ops listed → listed.getD k false = false → YieldsIf P ops C oi v a → C w → S w →
      wpAnyJ P md ops Q C S k fuel (listed.setIfInBounds i true) (a.put oi.dst v) w → wpAnyJ P md ops Q C S k (fuel + 1) listed a w := by
  intro fuel
  induction fuel with
  | zero =>
    intro listed a w _ hr hkl hy hC hS H
    refine ⟨fun h => (by rw [h] at hr; cases hr), fun j hj => ?_⟩
    by_cases hji : j = i
    · subst hji; exact hy.wpOp hi hC ⟨⟨.inr hC, hS⟩, H⟩
    · have := ready_mono hj hji
      rw [H.1] at this
      cases this
  | succ fuel ih =>
    intro listed a w hfree hr hkl hy hC hS H
    refine ⟨fun h => (by rw [h] at hr; cases hr), fun j hj => ?_⟩
    by_cases hji : j = i
    · subst hji; exact hy.wpOp hi hC ⟨⟨.inr hC, hS⟩, H⟩
    · have h1 := H.2 j (ready_mono hj hji)
      obtain ⟨hjun, oj, hoj, hall⟩ := mem_ready.1 hj
      have hnot := ready_waits (oj := oj) hr hall
      have hjk : k ≠ j := fun e => by
        subst e
        obtain ⟨ok, hok, e, he, hb, hon⟩ := Region.waitsFor_spec hk
        rw [hoj] at hok
        injection hok with hok
        subst hok
        exact hnot e he hb hon
      have h2 := wpOp_putIf hoj (hfree j oj hoj hji hjun hnot) (fun cs b => hsel i oi cs b hi) (fun cs b => hsel j oj cs b hoj) hQ hy h1
      have hfree' : ∀ k ok, ops[k]? = some ok → k ≠ i → (listed.setIfInBounds j true).getD k true = false →
          (∀ e ∈ ok.after, Region.binds md e = true → e.on ≠ i) → oi.apart ops ok = true := fun k ok hk hki hun hno => by
        refine hfree k ok hk hki ?_ hno
        by_cases hjk : j = k
        · subst hjk; exact hjun
        · rw [getD_set_ne true hjk] at hun; exact hun
      have hkl' : (listed.setIfInBounds j true).getD k false = false := by rw [getD_set_ne false (Ne.symm hjk)]; exact hkl
      refine wpOp_mono (fun a' w' h3 => ?_) h2
      have hC' : C w' := by
        rcases h3.2.1.1 with h | h
        · rw [getD_set_ne false (Ne.symm hjk), getD_set_ne false (Ne.symm hki), hkl] at h
          cases h
        · exact h
      refine ⟨⟨.inr hC', h3.2.1.2⟩, ih (listed.setIfInBounds j true) a' w' hfree' (ready_mono hr (Ne.symm hji)) hkl' h3.1 hC' h3.2.1.2 ?_⟩
      rw [Array.setIfInBounds_comm _ _ hji]
      exact h3.2.2
theorem wpAnyJ_firstS {i : Nat} {oi : Oper} {v : Value} (hi : ops[i]? = some oi) (hsel : ∀ (j : Nat) (o : Oper) cs b, ops[j]? = some o → o.op ≠ .select cs b)
    (hQ : ∀ c a w, Q (.panic c) (a.put oi.dst v) w → Q (.panic c) a w) (hki : k ≠ i) :
    ∀ (fuel : Nat) (listed : Array Bool) (a : Act) (w : World),
      (∀ j oj, ops[j]? = some oj → j ≠ i → listed.getD j true = false → (∀ e ∈ oj.after, Region.binds md e = true → e.on ≠ i) → oi.apart ops oj = true) →
      i ∈ Region.ready md ops listed → (listed.getD k false = true ∨ C w) → S w → YieldsIf P ops S oi v a →
      wpAnyJ P md ops Q C S k fuel (listed.setIfInBounds i true) (a.put oi.dst v) w → wpAnyJ P md ops Q C S k (fuel + 1) listed a w := by
  intro fuel
  induction fuel with
  | zero =>
    intro listed a w _ hr hC hS hy H
    refine ⟨fun h => (by rw [h] at hr; cases hr), fun j hj => ?_⟩
    by_cases hji : j = i
    · subst hji; exact hy.wpOp hi hS ⟨⟨hC.imp (fun h => by rw [getD_set_ne false (Ne.symm hki)]; exact h) id, hS⟩, H⟩
    · have := ready_mono hj hji
      rw [H.1] at this
      cases this
  | succ fuel ih =>
    intro listed a w hfree hr hC hS hy H
    refine ⟨fun h => (by rw [h] at hr; cases hr), fun j hj => ?_⟩
    by_cases hji : j = i
    · subst hji; exact hy.wpOp hi hS ⟨⟨hC.imp (fun h => by rw [getD_set_ne false (Ne.symm hki)]; exact h) id, hS⟩, H⟩
    · have h1 := H.2 j (ready_mono hj hji)
      obtain ⟨hjun, oj, hoj, hall⟩ := mem_ready.1 hj
      have hnot := ready_waits (oj := oj) hr hall
      have h2 := wpOp_putIf hoj (hfree j oj hoj hji hjun hnot) (fun cs b => hsel i oi cs b hi) (fun cs b => hsel j oj cs b hoj) hQ hy h1
      have hfree' : ∀ k ok, ops[k]? = some ok → k ≠ i → (listed.setIfInBounds j true).getD k true = false →
          (∀ e ∈ ok.after, Region.binds md e = true → e.on ≠ i) → oi.apart ops ok = true := fun k ok hk hki hun hno => by
        refine hfree k ok hk hki ?_ hno
        by_cases hjk : j = k
        · subst hjk; exact hjun
        · rw [getD_set_ne true hjk] at hun; exact hun
      refine wpOp_mono (fun a' w' h3 => ?_) h2
      have hC' : (listed.setIfInBounds j true).getD k false = true ∨ C w' := by
        refine h3.2.1.1.imp (fun h => ?_) id
        rw [Array.setIfInBounds_comm _ _ (Ne.symm hji), getD_set_ne false (Ne.symm hki)] at h
        exact h
      refine ⟨⟨hC', h3.2.1.2⟩, ih (listed.setIfInBounds j true) a' w' hfree' (ready_mono hr (Ne.symm hji)) hC' h3.2.1.2 h3.1 ?_⟩
      rw [Array.setIfInBounds_comm _ _ hji]
      exact h3.2.2
theorem wpAnyJ_take {i : Nat} {oi : Oper} {v : Value} {fuel : Nat} {listed : Array Bool} {a : Act} {w : World} (hi : ops[i]? = some oi)
    (hs : Region.noSelect ops = true) (hf : Region.free md ops listed i = true) (hr : (Region.ready md ops listed).contains i = true) (hk : Region.waitsFor md ops k i = true) (hki : k ≠ i) (hkl : listed.getD k false = false)
    (hQ : ∀ c a w, Q (.panic c) (a.put oi.dst v) w → Q (.panic c) a w) (hy : YieldsIf P ops C oi v a) (hC : C w) (hS : S w)
    (h : wpAnyJ P md ops Q C S k fuel (listed.setIfInBounds i true) (a.put oi.dst v) w) : wpAnyJ P md ops Q C S k (fuel + 1) listed a w :=
  wpAnyJ_first hi (Region.noSelect_spec hs) hQ hk hki fuel listed a w (Region.free_spec hi hf) (by simpa using hr) hkl hy hC hS h
theorem wpAnyJ_takeS {i : Nat} {oi : Oper} {v : Value} {fuel : Nat} {listed : Array Bool} {a : Act} {w : World} (hi : ops[i]? = some oi)
    (hs : Region.noSelect ops = true) (hf : Region.free md ops listed i = true) (hr : (Region.ready md ops listed).contains i = true) (hki : k ≠ i)
    (hQ : ∀ c a w, Q (.panic c) (a.put oi.dst v) w → Q (.panic c) a w) (hy : YieldsIf P ops S oi v a) (hC : listed.getD k false = true ∨ C w) (hS : S w)
    (h : wpAnyJ P md ops Q C S k fuel (listed.setIfInBounds i true) (a.put oi.dst v) w) : wpAnyJ P md ops Q C S k (fuel + 1) listed a w :=
  wpAnyJ_firstS hi (Region.noSelect_spec hs) hQ hki fuel listed a w (Region.free_spec hi hf) (by simpa using hr) hC hS hy h
theorem wpAnyJ_one {i : Nat} {o : Oper} {fuel : Nat} {listed : Array Bool} {a : Act} {w : World} (hr : Region.ready md ops listed = [i]) (ho : ops[i]? = some o)
    (h : ∀ K' : Act → World → Prop, Shut (∀ a w, ((listed.setIfInBounds i true).getD k false = true ∨ C w) → S w → wpAnyJ P md ops Q C S k fuel (listed.setIfInBounds i true) a w → K' a w) → if Region.wanted o (yielded ops a.tmps) = true then Oper.wp P o a w K' Q else K' (a.put o.dst undef) w) :
    wpAnyJ P md ops Q C S k (fuel + 1) listed a w :=
  ⟨fun h0 => (by rw [hr] at h0; cases h0), fun j hj => by
    rw [hr] at hj
    obtain rfl : j = i := by simpa using hj
    exact wpOp_step ho (fun K' hK => h K' (fun a w hC hS hW => hK a w ⟨⟨hC, hS⟩, hW⟩))⟩
theorem wpAnyJ_done {listed : Array Bool} {a : Act} {w : World} (hr : Region.ready md ops listed = []) (h : Q .normal a w) :
    ∀ fuel, wpAnyJ P md ops Q C S k fuel listed a w
  | 0 => ⟨hr, h⟩
  | _ + 1 => ⟨fun _ => h, by rw [hr]; simp⟩
theorem wp_heldJ {id : Nat} {K : Act → World → Prop} {a : Act} {w : World} (C S : World → Prop) (k : Nat) (M : Act → World → Prop)
    (hm : P.follows .mixedOrders = true)
    (h : wpAnyJ P .any ops (Runs M) C S k ops.size (Array.replicate ops.size false) a w.drew) (h2 : ∀ a w, M a w → K a w) : (Code.region id ops true).wp P (Exit.then K Q) a w :=
  wp_mono (Q := Runs M) (wp_region_any hm (wpAny_of_J _ _ _ _ h)) (fun e a w h => by cases e <;> first | exact h2 _ _ h | exact False.elim h)
theorem wp_heldJQ {id : Nat} {a : Act} {w : World} (C S : World → Prop) (k : Nat) (hm : P.follows .mixedOrders = true)
    (h : wpAnyJ P .any ops (Runs (Q .normal)) C S k ops.size (Array.replicate ops.size false) a w.drew) : (Code.region id ops true).wp P Q a w :=
  wp_mono (Q := Runs (Q .normal)) (wp_region_any hm (wpAny_of_J _ _ _ _ h)) (fun e a w h => by cases e <;> first | exact h | exact False.elim h)
end

end Go.Proofs.Ytpaklhifnndeoaa
end

section
namespace Go.Proofs.Ytpaklhifnndeoaa
open Go.RowKit
set_option linter.unusedVariables false

theorem RwF.str {α : Type} {F : Nat → Prop} {w : World} {A : Option Addr} {n c : Nat} {g : α → List UInt8} {l : List α} (h : RwF F w A n c 1 (l.map fun y => strV (g y))) {k : Nat} {y : α} (hy : l[k]? = some y) :
    ∃ b off, A = some ⟨b, off, none⟩ ∧ F b ∧ w.cell? ⟨b, off + k, none⟩ = some (.string ⟨(g y).toArray⟩) := by
  obtain ⟨b, off, h1, h2, h3⟩ := h.reads (by rw [List.length_map]; have := (List.getElem?_eq_some_iff.1 hy).1; omega)
  exact ⟨b, off, h1, h2, h3 k _ (by rw [List.getElem?_map, hy]; rfl)⟩
theorem trEmpty_any (w : World) : Calls Try.prog 15 #[] w (NodT (fun g => w.heap.size ≤ g) (.leaf 0 []) w) := by
  have hB : Below w.heap.size w (w.alloc (.cells #[.int .i64 0, .bool true, .slice none 0 0, .slice none 0 0, .slice none 0 0] 29)) := (Below.refl _ w).alloc (Nat.le_refl _) _
  have hX := Has.made w 29 #[.int .i64 0, .bool true, .slice none 0 0, .slice none 0 0, .slice none 0 0]
  have e0 := hX.cell 0
  have e1 := hX.cell 1
  have e2 := hX.cell 2
  have e3 := hX.cell 3
  have e4 := hX.cell 4
  have HB := Lib.hid hB
  clear hB hX
  go_enter Try.func15, Try.ntmps15
  go_wp2
  refine ⟨rfl, .agg #[.int .i64 0, .bool true, .slice none 0 0, .slice none 0 0, .slice none 0 0], ?_, ⟨0, true, none, 0, 0, none, 0, 0, none, 0, 0⟩, rfl, ?_, HB.out⟩
  · simp [results, Try.f15, go_sem, e0, e1, e2, e3, e4]
  · exact repT_rowL.2 ⟨rfl, rfl, row_zeroL _ _ _ _⟩
theorem trValSize_any (d : List UInt8) (a : Option Addr) (n c : Nat) (w : World) (hd : d.length ≤ 1000) :
    Calls Try.prog 62 #[.agg #[.string ⟨d.toArray⟩, .slice a n c]] w fun e w' => e = .returned (.int .i64 (if 16 < d.length then 4 else (d.length : Int))) ∧ Below w.heap.size w w' := by
  obtain ⟨sd, hsd⟩ : ∃ s : ByteArray, (⟨d.toArray⟩ : ByteArray) = s := ⟨_, rfl⟩
  have hsz : sd.size = d.length := by rw [← hsd]; exact size_list _
  rw [hsd]
  clear hsd
  obtain ⟨n', hn'⟩ : ∃ n', d.length = n' := ⟨_, rfl⟩
  rw [hn'] at hsz hd ⊢
  clear hn'
  have hB : Below w.heap.size w (w.alloc (.cells #[.string sd, .slice a n c] 84)) := (Below.refl _ w).alloc (Nat.le_refl _) _
  have HB := Lib.hid hB
  clear hB
  by_cases h : 16 < n'
  · have h' : (16 : Int) < (n' : Int) := by omega
    rw [if_pos h]
    go_enter Try.func62, Try.ntmps62
    go_wp2
    go_ret
    exact ⟨rfl, HB.out⟩
  · have h' : ¬ (16 : Int) < (n' : Int) := by omega
    rw [if_neg h]
    go_enter Try.func62, Try.ntmps62
    go_wp2
    go_ret
    exact ⟨rfl, HB.out⟩
def halfZ (S : List Int) (k : Nat) : List Int := S.take k ++ List.replicate (S.length - k) 0
theorem halfZ_step {S : List Int} {k : Nat} {z : Int} (h : S[k]? = some z) : (halfZ S k).set k z = halfZ S (k + 1) := by
  have hk := (List.getElem?_eq_some_iff.1 h).1
  unfold halfZ
  have h1 : (S.take k).length = k := by rw [List.length_take]; omega
  rw [show S.length - k = (S.length - (k + 1)) + 1 by omega, List.replicate_succ, List.set_append_right _ _ (by omega), h1, Nat.sub_self, List.set_cons_zero, List.take_add_one, h, Option.toList_some, List.append_assoc]
  rfl
theorem halfZ_len (S : List Int) {k : Nat} (h : k ≤ S.length) : (halfZ S k).length = S.length := by
  unfold halfZ
  rw [List.length_append, List.length_take, List.length_replicate]
  omega
theorem make_ints15 (n : Nat) (hn : n ≤ 1000000) (w : World) : (Instr.makeSlice 48 (.int .i64 n) (.int .i64 n)).run Try.prog w = .ok (.slice (some ⟨w.heap.size, 0, none⟩) n n) (w.alloc (.cells (madeCells #[.int .i64 0] n) 3)) := by
  obtain ⟨i0, hi, hz0, hz1, hz2⟩ := info_parts int_info13
  have := run_make (P := Try.prog) (w := w) 48 3 i0 (.int .i64 0) Try.underlying48 hi hz0 .i64 .i64 n n (by omega) (by omega) (by rw [hz2]; omega) (by omega)
  simp only [Int.toNat_natCast, hz1, Nat.mul_one] at this
  exact this
set_option maxRecDepth 100000 in
set_option maxHeartbeats 4000000 in
theorem trSizes_branch (F : Nat → Prop) (l : List (List UInt8 × Tr)) (x : NDV) (w : World) (hlf : x.lf = false) (h : RowB F w x l) (hn : l.length ≤ 1000) (hb : ∀ y ∈ l, y.1.length ≤ 1000) :
    Calls Try.prog 42 #[ndV x] w fun e w' => ∃ A c, e = .returned (.slice A l.length c) ∧ RowZ w' A l.length c (l.map (fun x => 4 + (x.1.length : Int))) ∧ Below w.heap.size w w' := by
  obtain ⟨xp, xlf, kA, kn, kc, vA, vn, vc, dA, dn, dc⟩ := x
  simp only at hlf
  subst hlf
  unfold ndV
  simp only
  obtain ⟨hk, _⟩ := h
  simp only at hk 
  have e1 : kn = l.length := by have := hk.len; simpa using this.symm
  rw [← e1] at hn ⊢
  have HL := Lib.hid e1
  skip
  obtain ⟨S, hS⟩ : ∃ S, l.map (fun x => 4 + (x.1.length : Int)) = S := ⟨_, rfl⟩
  have hSl : S.length = kn := by rw [← hS, List.length_map, e1]
  rw [hS]
  obtain ⟨W, hW⟩ : ∃ W, w.alloc (.cells #[.int .i64 xp, .bool false, .slice kA kn kc, .slice vA vn vc, .slice dA dn dc] 29) = W := ⟨_, rfl⟩
  have hB0 : Below w.heap.size w W := hW ▸ (Below.refl _ w).alloc (Nat.le_refl _) _
  have hX1 : Has W w.heap.size 29 #[.int .i64 xp, .bool false, .slice kA kn kc, .slice vA vn vc, .slice dA dn dc] := hW ▸ Has.made w 29 _
  have hmk := make_ints15 kn (by omega) W
  obtain ⟨W2, hW2⟩ : ∃ W2, W.alloc (.cells (madeCells #[.int .i64 0] kn) 3) = W2 := ⟨_, rfl⟩
  rw [hW2] at hmk
  have B12 : Below W.heap.size W W2 := hW2 ▸ (Below.refl _ W).alloc (Nat.le_refl _) _
  have H2 : Hid (Has W2 W.heap.size 3 ((halfZ S 0).map (Value.int .i64)).toArray) := Lib.hid (by
    rw [show ((halfZ S 0).map (Value.int .i64)).toArray = madeCells #[.int .i64 0] kn from by
      rw [← Array.toArray_toList (xs := madeCells #[.int .i64 0] kn), toList_madeCells_one]
      simp [halfZ, hSl]]
    exact hW2 ▸ Has.made W 3 _)
  obtain ⟨P1, hP1⟩ : ∃ P, w.heap.size = P := ⟨_, rfl⟩
  obtain ⟨P2, hP2⟩ : ∃ P, W.heap.size = P := ⟨_, rfl⟩
  rw [hP1] at hX1
  rw [hP2] at H2 hmk
  have HP2 := Lib.hid hP2
  have x10 := hX1.cell 2
  have HX2 := Lib.hid (hX1.below B12 hX1.lt)
  have x12 := HX2.out.cell 2
  have HB2 := Lib.hid (below_step hB0 B12)
  have h12 : P1 < P2 := by rw [← hP2]; exact hX1.lt
  have HS := Lib.hid hS
  have HSl := Lib.hid hSl
  have HK := Lib.hid hk
  skip
  have HB := Lib.hid hb
  have HVS := Lib.hid (fun d a n c w1 h => trValSize_any d a n c w1 h)
  have hmx : Try.prog.follows .mixedOrders = true := by kernel_rfl
  have HP1 := Lib.hid (show w.heap.size ≤ P1 from by omega)
  clear hk  hb e1  hX1 B12 hB0 hS hSl hW2
  go_enter Try.func42, Try.ntmps42
  go_wp2
  clear hW hP1 hP2 hmk x10 x12
  go_loopw [13] (fun i wr => ∃ k : Nat, k ≤ kn ∧ i = .int .i64 (k : Int) ∧ Has wr P2 3 ((halfZ S k).map (Value.int .i64)).toArray ∧ Has wr P1 29 #[.int .i64 xp, .bool false, .slice kA kn kc, .slice vA vn vc, .slice dA dn dc] ∧ Below w.heap.size w wr) (fun i _ => kn - (intOf i).toNat)
  case atStart => exact ⟨0, Nat.zero_le _, rfl, H2.out, HX2.out, HB2.out⟩
  case round =>
    obtain ⟨k, hk, rfl, h3, h4, h5⟩ := hrel
    have d1 : wr.cell? ⟨P1, 1, none⟩ = some (.bool false) := h4.cell 1
    have d2 : wr.cell? ⟨P1, 2, none⟩ = some (.slice kA kn kc) := h4.cell 2
    have d3 : wr.cell? ⟨P1, 3, none⟩ = some (.slice vA vn vc) := h4.cell 3
    have H3 := Lib.hid h3
    have H4 := Lib.hid h4
    have H5 := Lib.hid h5
    by_cases hlt : k < kn
    · obtain ⟨y, hy⟩ : ∃ y, l[k]? = some y := ⟨_, List.getElem?_eq_getElem (by rw [← HL.out]; exact hlt)⟩
      obtain ⟨g, off, rfl, _, c0⟩ := (HK.out.below h5).str hy
      have hby := HB.out y (List.mem_of_getElem? hy)
      obtain ⟨sk, hsk⟩ : ∃ s : ByteArray, (⟨(Prod.fst y).toArray⟩ : ByteArray) = s := ⟨_, rfl⟩
      have hsz : sk.size = (Prod.fst y).length := by rw [← hsk]; exact size_list _
      rw [hsk] at c0
      obtain ⟨kl, hkl⟩ : ∃ kl, (Prod.fst y).length = kl := ⟨_, rfl⟩
      rw [hkl] at hsz
      have hkb : kl ≤ 1000 := by have := hby; omega
      have ck : ∃ u, wr.cell? ⟨P2, k, none⟩ = some u := by
        rw [h3.cell]
        exact ⟨_, Array.getElem?_eq_getElem (by simp [halfZ_len S (k := k) (by rw [HSl.out]; omega), HSl.out]; omega)⟩
      obtain ⟨u, ck⟩ := ck
      have fk := h3.free k
      have i0 : (0 : Int) ≤ (k : Int) := by omega
      have i1 : (k : Int) < (kn : Int) := by omega
      have hsy : S[k]? = some (4 + (kl : Int)) := by
        rw [← HS.out, List.getElem?_map, hy]
        show some (4 + (y.1.length : Int)) = _
        rw [hkl]
      have HF : Hid (Has (wr.setCell ⟨P2, k, none⟩ (.int .i64 (4 + (kl : Int)))) P2 3 ((halfZ S (k + 1)).map (Value.int .i64)).toArray) := Lib.hid (by
        rw [← halfZ_step hsy, List.map_set]
        simpa using h3.store k (.int .i64 (4 + (kl : Int))))
      have HF4 := Lib.hid (h4.away (p := ⟨P2, k, none⟩) (by show P1 ≠ P2; omega) (.int .i64 (4 + (kl : Int))))
      have HF5 : Hid (Below w.heap.size w (wr.setCell ⟨P2, k, none⟩ (.int .i64 (4 + (kl : Int))))) := Lib.hid (h5.setCell (p := ⟨P2, k, none⟩) (by show w.heap.size ≤ P2; have := HP1.out; omega) _)
      clear h3 h4 h5 hsy hsk hkl hy hby
      go_wp2
      go_roundw
      case rel => exact ⟨k + 1, by omega, by go_num, HF.out, HF4.out, HF5.out⟩
      case measure => simp [intOf]; omega
    · have hkn : k = kn := by omega
      have i1 : ¬ (k : Int) < (kn : Int) := by omega
      have hall : halfZ S k = S := by rw [hkn, ← HSl.out]; unfold halfZ; simp
      rw [hall] at h3
      have HFIN : Hid (RowZ wr (some ⟨P2, 0, none⟩) kn kn S) := Lib.hid ⟨HSl.out.symm, fun _ => ⟨P2, 0, rfl, fun j u hj => by rw [h3.cell, Nat.zero_add, List.getElem?_toArray]; exact hj⟩, fun e => (by cases e), Nat.le_refl _, by unfold maxLen; omega⟩
      clear hall hkn h3 h4 h5
      go_wp2
      go_ret
      exact ⟨_, _, rfl, HFIN.out, H5.out⟩
set_option maxRecDepth 100000 in
set_option maxHeartbeats 4000000 in
theorem trSizes_leaf (F : Nat → Prop) (l : List Lf) (x : NDV) (w : World) (hlf : x.lf = true) (h : RowL F w x l) (hn : l.length ≤ 1000) (hb : ∀ y ∈ l, y.k.length ≤ 1000 ∧ y.d.length ≤ 1000) :
    Calls Try.prog 42 #[ndV x] w fun e w' => ∃ A c, e = .returned (.slice A l.length c) ∧ RowZ w' A l.length c (l.map sizeL) ∧ Below w.heap.size w w' := by
  obtain ⟨xp, xlf, kA, kn, kc, vA, vn, vc, dA, dn, dc⟩ := x
  simp only at hlf
  subst hlf
  unfold ndV
  simp only
  obtain ⟨hk, ⟨vs, hv, hvb⟩, _⟩ := h
  simp only at hk hv
  have e1 : kn = l.length := by have := hk.len; simpa using this.symm
  rw [← e1] at hn ⊢
  have HL := Lib.hid e1
  have e2 : vn = l.length := by rw [hv.lenS veL_len (by omega), hvb.1]
  have HVN := Lib.hid (e2.trans e1.symm)
  obtain ⟨S, hS⟩ : ∃ S, l.map sizeL = S := ⟨_, rfl⟩
  have hSl : S.length = kn := by rw [← hS, List.length_map, e1]
  rw [hS]
  obtain ⟨W, hW⟩ : ∃ W, w.alloc (.cells #[.int .i64 xp, .bool true, .slice kA kn kc, .slice vA vn vc, .slice dA dn dc] 29) = W := ⟨_, rfl⟩
  have hB0 : Below w.heap.size w W := hW ▸ (Below.refl _ w).alloc (Nat.le_refl _) _
  have hX1 : Has W w.heap.size 29 #[.int .i64 xp, .bool true, .slice kA kn kc, .slice vA vn vc, .slice dA dn dc] := hW ▸ Has.made w 29 _
  have hmk := make_ints15 kn (by omega) W
  obtain ⟨W2, hW2⟩ : ∃ W2, W.alloc (.cells (madeCells #[.int .i64 0] kn) 3) = W2 := ⟨_, rfl⟩
  rw [hW2] at hmk
  have B12 : Below W.heap.size W W2 := hW2 ▸ (Below.refl _ W).alloc (Nat.le_refl _) _
  have H2 : Hid (Has W2 W.heap.size 3 ((halfZ S 0).map (Value.int .i64)).toArray) := Lib.hid (by
    rw [show ((halfZ S 0).map (Value.int .i64)).toArray = madeCells #[.int .i64 0] kn from by
      rw [← Array.toArray_toList (xs := madeCells #[.int .i64 0] kn), toList_madeCells_one]
      simp [halfZ, hSl]]
    exact hW2 ▸ Has.made W 3 _)
  obtain ⟨P1, hP1⟩ : ∃ P, w.heap.size = P := ⟨_, rfl⟩
  obtain ⟨P2, hP2⟩ : ∃ P, W.heap.size = P := ⟨_, rfl⟩
  rw [hP1] at hX1
  rw [hP2] at H2 hmk
  have HP2 := Lib.hid hP2
  have x10 := hX1.cell 2
  have HX2 := Lib.hid (hX1.below B12 hX1.lt)
  have x12 := HX2.out.cell 2
  have HB2 := Lib.hid (below_step hB0 B12)
  have h12 : P1 < P2 := by rw [← hP2]; exact hX1.lt
  have HS := Lib.hid hS
  have HSl := Lib.hid hSl
  have HK := Lib.hid hk
  have HV := Lib.hid hv
  have HVB := Lib.hid hvb
  have HB := Lib.hid hb
  have HVS := Lib.hid (fun d a n c w1 h => trValSize_any d a n c w1 h)
  have hmx : Try.prog.follows .mixedOrders = true := by kernel_rfl
  have HP1 := Lib.hid (show w.heap.size ≤ P1 from by omega)
  clear hk hv hb e1 hvb e2 hX1 B12 hB0 hS hSl hW2
  go_enter Try.func42, Try.ntmps42
  go_wp2
  clear hW hP1 hP2 hmk x10 x12
  go_loopw [13] (fun i wr => ∃ k : Nat, k ≤ kn ∧ i = .int .i64 (k : Int) ∧ Has wr P2 3 ((halfZ S k).map (Value.int .i64)).toArray ∧ Has wr P1 29 #[.int .i64 xp, .bool true, .slice kA kn kc, .slice vA vn vc, .slice dA dn dc] ∧ Below w.heap.size w wr) (fun i _ => kn - (intOf i).toNat)
  case atStart => exact ⟨0, Nat.zero_le _, rfl, H2.out, HX2.out, HB2.out⟩
  case round =>
    obtain ⟨k, hk, rfl, h3, h4, h5⟩ := hrel
    have d1 : wr.cell? ⟨P1, 1, none⟩ = some (.bool true) := h4.cell 1
    have d2 : wr.cell? ⟨P1, 2, none⟩ = some (.slice kA kn kc) := h4.cell 2
    have d3 : wr.cell? ⟨P1, 3, none⟩ = some (.slice vA vn vc) := h4.cell 3
    have H3 := Lib.hid h3
    have H4 := Lib.hid h4
    have H5 := Lib.hid h5
    by_cases hlt : k < kn
    · obtain ⟨y, hy⟩ : ∃ y, l[k]? = some y := ⟨_, List.getElem?_eq_getElem (by rw [← HL.out]; exact hlt)⟩
      obtain ⟨g, off, rfl, _, c0⟩ := (HK.out.below h5).str hy
      have hby := HB.out y (List.mem_of_getElem? hy)
      obtain ⟨sk, hsk⟩ : ∃ s : ByteArray, (⟨(Lf.k y).toArray⟩ : ByteArray) = s := ⟨_, rfl⟩
      have hsz : sk.size = (Lf.k y).length := by rw [← hsk]; exact size_list _
      rw [hsk] at c0
      obtain ⟨kl, hkl⟩ : ∃ kl, (Lf.k y).length = kl := ⟨_, rfl⟩
      rw [hkl] at hsz
      have hkb : kl ≤ 1000 := by have := hby.1; omega
      have ck : ∃ u, wr.cell? ⟨P2, k, none⟩ = some u := by
        rw [h3.cell]
        exact ⟨_, Array.getElem?_eq_getElem (by simp [halfZ_len S (k := k) (by rw [HSl.out]; omega), HSl.out]; omega)⟩
      obtain ⟨u, ck⟩ := ck
      have fk := h3.free k
      have i0 : (0 : Int) ≤ (k : Int) := by omega
      have i1 : (k : Int) < (kn : Int) := by omega
      obtain ⟨v, hv, hvy⟩ := HVB.out.at_ hy
      obtain ⟨g2, off2, rfl, _, hvc⟩ := (HV.out.below h5).atS veL_len (by omega) hv
      have v0 : wr.cell? ⟨g2, off2 + k * 2, none⟩ = some (.string ⟨v.d.toArray⟩) := hvc 0 _ rfl
      have v1 : wr.cell? ⟨g2, off2 + k * 2 + 1, none⟩ = some (.slice v.pa v.pn v.pc) := hvc 1 _ rfl
      have i2 : (k : Int) < (vn : Int) := by have := HVN.out; omega
      have hdl : v.d.length ≤ 1000 := by rw [And.left hvy]; exact hby.2
      have hsy : S[k]? = some (3 + (kl : Int) + (if 16 < v.d.length then 4 else (v.d.length : Int))) := by
        rw [← HS.out, List.getElem?_map, hy]
        show some (sizeL y) = _
        unfold sizeL
        rw [hkl, And.left hvy]
      have HVZ := Lib.hid (fun w1 => HVS.out v.d v.pa v.pn v.pc w1 hdl)
      obtain ⟨sd, hsd⟩ : ∃ s : ByteArray, (⟨v.d.toArray⟩ : ByteArray) = s := ⟨_, rfl⟩
      rw [hsd] at v0 HVZ
      obtain ⟨dz, hdz⟩ : ∃ z : Int, (if 16 < v.d.length then 4 else (v.d.length : Int)) = z := ⟨_, rfl⟩
      have hdb : 0 ≤ dz ∧ dz ≤ 1000 := by rw [← hdz]; split <;> omega
      rw [hdz] at hsy HVZ
      obtain ⟨db1, db2⟩ := hdb
      obtain ⟨W7, hW7⟩ : ∃ W, wr.setCell ⟨P2, k, none⟩ (.int .i64 (3 + (kl : Int))) = W := ⟨_, rfl⟩
      have g7 : wr.grownBy W7 (some P2) := hW7 ▸ only_store (only_refl wr P2) k _
      have h7 : Has W7 P2 3 (((halfZ S k).map (Value.int .i64)).toArray.setIfInBounds k (.int .i64 (3 + (kl : Int)))) := hW7 ▸ h3.store k _
      have h74 := h4.grown g7 (by intro e; injection e with e; omega)
      have hg2 : g2 < wr.heap.size ∧ g2 ≠ P2 := ⟨World.block_lt_of_cell? wr _ v0, fun e => by
        have q0 : ∃ u, w.cell? ⟨g2, off2 + k * 2, none⟩ = some u := by
          obtain ⟨g3, off3, e3, _, hvc3⟩ := HV.out.atS veL_len (by omega) hv
          injection e3 with e3
          injection e3 with e3 e4
          subst e3 e4
          exact ⟨_, hvc3 0 _ rfl⟩
        obtain ⟨_, q0⟩ := q0
        have := World.block_lt_of_cell? w _ q0
        simp only at this
        have := HP1.out
        omega⟩
      have d73 : W7.cell? ⟨P1, 3, none⟩ = some (.slice (some ⟨g2, off2, none⟩) vn vc) := h74.cell 3
      have HX7 : Hid (∀ w' : World, W7.grownBy w' (some P2) → w'.cell? ⟨P1, 3, none⟩ = some (.slice (some ⟨g2, off2, none⟩) vn vc) ∧ w'.cell? ⟨g2, off2 + k * 2, none⟩ = some (.string sd) ∧ w'.cell? ⟨g2, off2 + k * 2 + 1, none⟩ = some (.slice v.pa v.pn v.pc)) := Lib.hid (fun w' hg => by
        have hq : w'.heap[g2]? = wr.heap[g2]? := (hg.block g2 (Nat.lt_of_lt_of_le hg2.1 g7.size) (fun e => by injection e with e; exact hg2.2 e)).trans (g7.block g2 hg2.1 (fun e => by injection e with e; exact hg2.2 e))
        exact ⟨(h74.grown hg (by intro e; injection e with e; omega)).cell 3, (cell_same (p := ⟨g2, off2 + k * 2, none⟩) hq).trans v0, (cell_same (p := ⟨g2, off2 + k * 2 + 1, none⟩) hq).trans v1⟩)
      have H7 := Lib.hid h7
      have H74 := Lib.hid h74
      have G7 := Lib.hid g7
      have HSY := Lib.hid hsy
      have HV5 : Hid (Below w.heap.size w W7) := Lib.hid (hW7 ▸ H5.out.setCell (p := ⟨P2, k, none⟩) (by show w.heap.size ≤ P2; have := HP1.out; omega) _)
      have hsw : Hid (W7.cell? ⟨P2, k, none⟩ = some (.int .i64 (3 + (kl : Int)))) := Lib.hid (by rw [h7.cell, Array.getElem?_setIfInBounds_self_of_lt (by simp [halfZ_len S (k := k) (by rw [HSl.out]; omega), HSl.out]; omega)])
      clear h3 h4 h5 h7 h74 g7 hv hvy hvc hdl hsy hsk hsd hdz hkl hy hby hg2
      go_wp2
      have hS0 : W7.grownBy W7.drew (some P2) := ⟨rfl, rfl, rfl, Nat.le_refl _, fun _ _ _ => rfl⟩
      have hT0 : Below W7.heap.size W7 W7.drew := (Below.refl _ W7).drew
      have hC0 : W7.drew.cell? ⟨P2, k, none⟩ = some (.int .i64 (3 + (kl : Int))) := hsw.out
      rename_i K hK
      refine wp_heldJQ (fun w' : World => w'.cell? ⟨P2, k, none⟩ = some (.int .i64 (3 + (kl : Int)))) (fun w' : World => W7.grownBy w' (some P2)) 12 hmx ?_
      refine wpAnyJ_takeS (i := 0) (v := .slice (some ⟨P2, 0, none⟩) kn kn) rfl (by kernel_rfl) (by kernel_rfl) (by kernel_rfl) (by decide) (fun _ _ _ h => h) (Or.inl ⟨by rfl, ?_⟩) (.inr hC0) hS0 ?_
      · rintro w6 hb6
        go_simp
      simp only [Act.put, List.setIfInBounds_toArray, List.set_cons_zero, List.set_cons_succ, List.getElem_toArray, List.getElem_cons_zero]
      refine wpAnyJ_takeS (i := 1) (v := .int .i64 (k : Int)) rfl (by kernel_rfl) (by kernel_rfl) (by kernel_rfl) (by decide) (fun _ _ _ h => h) (Or.inl ⟨by rfl, ?_⟩) (.inr hC0) hS0 ?_
      · rintro w6 hb6
        go_simp
      simp only [Act.put, List.setIfInBounds_toArray, List.set_cons_zero, List.set_cons_succ, List.getElem_toArray, List.getElem_cons_zero, List.getElem_cons_succ]
      refine wpAnyJ_takeS (i := 2) (v := .pointer (some ⟨P2, k, none⟩)) rfl (by kernel_rfl) (by kernel_rfl) (by kernel_rfl) (by decide) (fun _ _ _ h => h) (Or.inl ⟨by rfl, ?_⟩) (.inr hC0) hS0 ?_
      · rintro w6 hb6
        go_simp
      simp only [Act.put, List.setIfInBounds_toArray, List.set_cons_zero, List.set_cons_succ, List.getElem_toArray, List.getElem_cons_zero, List.getElem_cons_succ]
      refine wpAnyJ_take (i := 3) (v := .int .i64 (3 + (kl : Int))) rfl (by kernel_rfl) (by kernel_rfl) (by kernel_rfl) (by kernel_rfl) (by decide) (by kernel_rfl) (fun _ _ _ h => h) (Or.inl ⟨by rfl, ?_⟩) hC0 hS0 ?_
      · rintro w6 c9
        go_simp
      simp only [Act.put, List.setIfInBounds_toArray, List.set_cons_zero, List.set_cons_succ, List.getElem_toArray, List.getElem_cons_zero, List.getElem_cons_succ]
      refine wpAnyJ_takeS (i := 4) (v := .pointer (some ⟨P1, 3, none⟩)) rfl (by kernel_rfl) (by kernel_rfl) (by kernel_rfl) (by decide) (fun _ _ _ h => h) (Or.inl ⟨by rfl, ?_⟩) (.inr hC0) hS0 ?_
      · rintro w6 hb6
        go_simp
      simp only [Act.put, List.setIfInBounds_toArray, List.set_cons_zero, List.set_cons_succ, List.getElem_toArray, List.getElem_cons_zero, List.getElem_cons_succ]
      refine wpAnyJ_takeS (i := 5) (v := .slice (some ⟨g2, off2, none⟩) vn vc) rfl (by kernel_rfl) (by kernel_rfl) (by kernel_rfl) (by decide) (fun _ _ _ h => h) (Or.inl ⟨by rfl, ?_⟩) (.inr hC0) hS0 ?_
      · rintro w6 hb6
        have y6 := (HX7.out w6 hb6).1
        go_simp
      simp only [Act.put, List.setIfInBounds_toArray, List.set_cons_zero, List.set_cons_succ, List.getElem_toArray, List.getElem_cons_zero, List.getElem_cons_succ]
      refine wpAnyJ_takeS (i := 6) (v := .int .i64 (k : Int)) rfl (by kernel_rfl) (by kernel_rfl) (by kernel_rfl) (by decide) (fun _ _ _ h => h) (Or.inl ⟨by rfl, ?_⟩) (.inr hC0) hS0 ?_
      · rintro w6 hb6
        go_simp
      simp only [Act.put, List.setIfInBounds_toArray, List.set_cons_zero, List.set_cons_succ, List.getElem_toArray, List.getElem_cons_zero, List.getElem_cons_succ]
      refine wpAnyJ_takeS (i := 7) (v := .pointer (some ⟨g2, off2 + k * 2, none⟩)) rfl (by kernel_rfl) (by kernel_rfl) (by kernel_rfl) (by decide) (fun _ _ _ h => h) (Or.inl ⟨by rfl, ?_⟩) (.inr hC0) hS0 ?_
      · rintro w6 hb6
        go_simp
      simp only [Act.put, List.setIfInBounds_toArray, List.set_cons_zero, List.set_cons_succ, List.getElem_toArray, List.getElem_cons_zero, List.getElem_cons_succ]
      refine wpAnyJ_takeS (i := 8) (v := .agg #[.string sd, .slice v.pa v.pn v.pc]) rfl (by kernel_rfl) (by kernel_rfl) (by kernel_rfl) (by decide) (fun _ _ _ h => h) (Or.inl ⟨by rfl, ?_⟩) (.inr hC0) hS0 ?_
      · rintro w6 hb6
        obtain ⟨_, y60, y61⟩ := HX7.out w6 hb6
        go_simp
      simp only [Act.put, List.setIfInBounds_toArray, List.set_cons_zero, List.set_cons_succ, List.getElem_toArray, List.getElem_cons_zero, List.getElem_cons_succ]
      refine wpAnyJ_one (i := 9) (by kernel_rfl) rfl (fun K5 hK5 => ?_)
      go_simp
      go_at_call 62
      (with_reducible refine (HVZ.out _).mono ?_)
      rintro e8 w8 ⟨rfl, b8⟩
      have hT1 : Below W7.heap.size W7 w8 := below_step hT0 b8
      have hS1 : W7.grownBy w8 (some P2) := only_of_below hT1 (Nat.le_refl _)
      have hC1 := cell_below hC0 b8
      have H8 := Lib.hid (H7.out.below hT1 H7.out.lt)
      clear b8
      go_simp
      refine hK5.out _ _ (.inr hC1) hS1 ?_
      clear hK5 K5
      refine wpAnyJ_takeS (i := 10) (v := .int .i64 (3 + (kl : Int) + dz)) rfl (by kernel_rfl) (by kernel_rfl) (by kernel_rfl) (by decide) (fun _ _ _ h => h) (Or.inl ⟨by rfl, ?_⟩) (.inr hC1) hS1 ?_
      · rintro w6 hb6
        have hwr : IntKind.i64.wrap (3 + (kl : Int) + dz) = 3 + (kl : Int) + dz := by rw [IntWalk.i64_in _ (by omega)]
        go_simp
      simp only [Act.put, List.setIfInBounds_toArray, List.set_cons_zero, List.set_cons_succ, List.getElem_toArray, List.getElem_cons_zero, List.getElem_cons_succ]
      refine wpAnyJ_takeS (i := 11) (v := .pointer (some ⟨P2, k, none⟩)) rfl (by kernel_rfl) (by kernel_rfl) (by kernel_rfl) (by decide) (fun _ _ _ h => h) (Or.inl ⟨by rfl, ?_⟩) (.inr hC1) hS1 ?_
      · rintro w6 hb6
        go_simp
      simp only [Act.put, List.setIfInBounds_toArray, List.set_cons_zero, List.set_cons_succ, List.getElem_toArray, List.getElem_cons_zero, List.getElem_cons_succ]
      refine wpAnyJ_one (i := 12) (by kernel_rfl) rfl (fun K5 hK5 => ?_)
      go_simp
      have f8 := H8.out.free k
      have hS2 := only_store hS1 k (.int .i64 (3 + (kl : Int) + dz))
      go_simp
      refine hK5.out _ _ (.inl (by kernel_rfl)) hS2 ?_
      clear hK5 K5
      refine wpAnyJ_done (by kernel_rfl) ?_ _
      refine hK _ _ ?_
      go_wp2
      have hst := H8.out.store k (.int .i64 (3 + (kl : Int) + dz))
      have HF : Hid (Has (w8.setCell ⟨P2, k, none⟩ (.int .i64 (3 + (kl : Int) + dz))) P2 3 ((halfZ S (k + 1)).map (Value.int .i64)).toArray) := Lib.hid (by
        rw [← halfZ_step HSY.out, List.map_set]
        simpa using hst)
      have HF4 := Lib.hid ((H74.out.below hT1 H74.out.lt).away (p := ⟨P2, k, none⟩) (by show P1 ≠ P2; omega) (.int .i64 (3 + (kl : Int) + dz)))
      have HF5 : Hid (Below w.heap.size w (w8.setCell ⟨P2, k, none⟩ (.int .i64 (3 + (kl : Int) + dz)))) := Lib.hid ((below_step HV5.out hT1).setCell (p := ⟨P2, k, none⟩) (by show w.heap.size ≤ P2; have := HP1.out; omega) _)
      clear hst hT1 hT0 hS0 hS1 hS2
      go_roundw
      case rel => exact ⟨k + 1, by omega, by go_num, HF.out, HF4.out, HF5.out⟩
      case measure => simp [intOf]; omega
    · have hkn : k = kn := by omega
      have i1 : ¬ (k : Int) < (kn : Int) := by omega
      have hall : halfZ S k = S := by rw [hkn, ← HSl.out]; unfold halfZ; simp
      rw [hall] at h3
      have HFIN : Hid (RowZ wr (some ⟨P2, 0, none⟩) kn kn S) := Lib.hid ⟨HSl.out.symm, fun _ => ⟨P2, 0, rfl, fun j u hj => by rw [h3.cell, Nat.zero_add, List.getElem?_toArray]; exact hj⟩, fun e => (by cases e), Nat.le_refl _, by unfold maxLen; omega⟩
      clear hall hkn h3 h4 h5
      go_wp2
      go_ret
      exact ⟨_, _, rfl, HFIN.out, H5.out⟩
end Go.Proofs.Ytpaklhifnndeoaa
end
