import Derived.Test.YtnponjdnjkegmaaDoorJ12
/- Of a claim's texts, joined: Nep Neq. No statement but in the last. -/
section
namespace Go.Proofs.YtnponjdnjkegmaaDoor
open Go.RowKit
set_option linter.unusedVariables false

def smallN (l : List En) : Bool := decide (l.length ≤ 40 ∧ ∀ e ∈ l, e.k.length ≤ 300 ∧ e.d.length ≤ 300)
set_option maxRecDepth 100000 in
set_option maxHeartbeats 1000000 in
theorem small08_any (leaf : Bool) (A : Option Addr) (n c : Nat) (l : List En) (w : World) (h : NodA w A n c l) :
    Calls Tryd.prog 9 #[.agg #[.bool leaf, .slice A n c]] w fun e w' => e = .returned (.bool (smallN l)) ∧ Below w.heap.size w w' := by
  obtain ⟨W, hW⟩ : ∃ W, w.alloc (.cells #[.bool leaf, .slice A n c] 24) = W := ⟨_, rfl⟩
  have BW : Below w.heap.size w W := hW ▸ (Below.refl _ w).alloc (Nat.le_refl _) _
  have hX : Has W w.heap.size 24 #[.bool leaf, .slice A n c] := hW ▸ Has.made w _ _
  have e0 := hX.cell 0
  have e1 := hX.cell 1
  have HA := Lib.hid (h.below BW)
  have HL := Lib.hid h.len
  have HB := Lib.hid BW
  have hcm := h.most
  have hrm := h.room
  unfold maxLen at hcm
  clear h BW hX
  go_enter Tryd.func9, Tryd.ntmps9
  go_wp2
  try rw [hW]
  go_loop [3] (fun i => ∃ k : Nat, k ≤ n ∧ i = .int .i64 k ∧ ∀ e ∈ l.take k, e.k.length ≤ 300 ∧ e.d.length ≤ 300) (fun i => n - (intOf i).toNat)
  case atStart => exact ⟨0, Nat.zero_le _, rfl, fun x hx => by simp at hx⟩
  case round =>
    obtain ⟨k, hk, rfl, hx⟩ := hrel
    have HX := Lib.hid hx
    clear hx
    by_cases hlt : k < n
    · have hkl : k < l.length := by rw [← HL.out]; exact hlt
      obtain ⟨g, off, rfl, c0, c1, c2, c3, c4⟩ := HA.out.reads.eat hkl
      have hst := HA.out.strs _ (List.getElem_mem hkl)
      have hmem := List.getElem_mem hkl
      have htk := List.take_succ_eq_append_getElem hkl
      have i0 : (0 : Int) ≤ (k : Int) := by omega
      have i1 : (k : Int) < (n : Int) := by omega
      generalize l[k] = y at *
      obtain ⟨yk, yd, far, sz, pg⟩ := y
      simp only [cstV] at c0 c1 c2 c3 c4
      simp only at hst
      have z0 : (⟨yk.toArray⟩ : ByteArray).size = yk.length := size_list yk
      have z1 : (⟨yd.toArray⟩ : ByteArray).size = yd.length := size_list yd
      generalize (⟨yd.toArray⟩ : ByteArray) = sd at *
      generalize (⟨yk.toArray⟩ : ByteArray) = sk at *
      unfold maxLen at hst
      rw [← z0, ← z1] at hst
      by_cases hy : sk.size ≤ 300 ∧ sd.size ≤ 300
      · have HT : Hid (∀ e ∈ l.take (k + 1), e.k.length ≤ 300 ∧ e.d.length ≤ 300) := Lib.hid (by
          rw [htk]
          intro x hx
          rcases List.mem_append.1 hx with h | h
          · exact HX.out x h
          · obtain rfl := List.mem_singleton.1 h
            simp only
            omega)
        have y1 : ¬ (300 : Int) < (sk.size : Int) := by omega
        have y2 : ¬ (300 : Int) < (sd.size : Int) := by omega
        clear hkl hmem htk z0 z1 hy
        go_wp2
        go_round
        case rel => exact ⟨k + 1, by omega, by go_num, HT.out⟩
        case measure => simp [intOf]; omega
      · have HD : Hid (smallN l = false) := Lib.hid (by
          apply decide_eq_false
          rintro ⟨_, h⟩
          have := h _ hmem
          simp only at this
          omega)
        by_cases y1 : sk.size ≤ 300
        · have y1 : ¬ (300 : Int) < (sk.size : Int) := by omega
          have y2 : (300 : Int) < (sd.size : Int) := by omega
          clear hkl hmem htk z0 z1 hy
          go_wp2
          go_ret
          exact ⟨by rw [HD.out]; rfl, HB.out⟩
        · have y1 : (300 : Int) < (sk.size : Int) := by omega
          clear hkl hmem htk z0 z1 hy
          go_wp2
          go_ret
          exact ⟨by rw [HD.out]; rfl, HB.out⟩
    · obtain rfl : k = n := by omega
      have HD : Hid (smallN l = decide ((k : Int) ≤ 40)) := Lib.hid (by
        have h1 := HX.out
        rw [List.take_of_length_le (by rw [← HL.out]; exact Nat.le_refl _)] at h1
        have h2 := HL.out
        by_cases h3 : k ≤ 40
        · rw [show decide ((k : Int) ≤ 40) = true from decide_eq_true (by omega)]
          exact decide_eq_true ⟨by omega, h1⟩
        · rw [show decide ((k : Int) ≤ 40) = false from decide_eq_false (by omega)]
          exact decide_eq_false (by rintro ⟨h, _⟩; omega))
      go_wp2
      go_ret
      exact ⟨by rw [HD.out]; rfl, HB.out⟩

/-! A node of the document's. -/
theorem rninfo : (Tryd.prog.info? 29).map (fun i => (i.zero, i.size)) = some (some (.agg #[.bool false, .slice none 0 0]), 2) := by kernel_rfl
theorem zero_rnode (w : World) : (zeroValue 29).run Tryd.prog w = .ok (.agg #[.bool false, .slice none 0 0]) w := by
  obtain ⟨i, hi, h⟩ := Option.map_eq_some_iff.1 rninfo
  simp only [Prod.mk.injEq] at h
  simp [zeroValue, typeInfo, hi, h.1]
theorem reinfo : (Tryd.prog.info? 58).map (fun i => (i.zero, i.size, i.bytes)) = some (some (.agg #[.string ⟨#[]⟩, .string ⟨#[]⟩, .bool false, .int .i64 0, .int .i64 0]), 5, 56) := by kernel_rfl
theorem zero_re (w : World) : (zeroValue 58).run Tryd.prog w = .ok (.agg #[.string ⟨#[]⟩, .string ⟨#[]⟩, .bool false, .int .i64 0, .int .i64 0]) w := by
  obtain ⟨i, hi, h⟩ := Option.map_eq_some_iff.1 reinfo
  simp only [Prod.mk.injEq] at h
  simp [zeroValue, typeInfo, hi, h.1]
theorem rvinfo : (Tryd.prog.info? 56).map (fun i => (i.zero, i.size)) = some (some (.agg #[.string ⟨#[]⟩, .bool false, .int .i64 0, .int .i64 0]), 4) := by kernel_rfl
theorem zero_rv (w : World) : (zeroValue 56).run Tryd.prog w = .ok (.agg #[.string ⟨#[]⟩, .bool false, .int .i64 0, .int .i64 0]) w := by
  obtain ⟨i, hi, h⟩ := Option.map_eq_some_iff.1 rvinfo
  simp only [Prod.mk.injEq] at h
  simp [zeroValue, typeInfo, hi, h.1]
theorem NodA.of_ownT {w : World} {t : TypeId} {base n : Nat} {v : Value} {l : List En} (h : w.ownsRow base t 5 v n (cellsN l)) (hs : ∀ e ∈ l, e.k.length ≤ maxLen ∧ e.d.length ≤ maxLen) : ∃ A c, v = .slice A n c ∧ NodA w A n c l := by
  have hn : n = l.length := by have := h.1; rw [cellsN_len] at this; omega
  rcases h.2 with ⟨rfl, rfl⟩ | ⟨g, cap, cur, rfl, h1, h2, h3, h4, h5, h6⟩
  · have := List.eq_nil_of_length_eq_zero hn.symm
    subst this
    exact ⟨none, 0, rfl, NodA.none_ _⟩
  · refine ⟨_, cap, rfl, hn, fun hx => ⟨g, 0, rfl, fun j u hj => ?_⟩, h3, h4, hs⟩
    have hjl := (List.getElem?_eq_some_iff.1 hj).1
    have : Has w g t cur := h2
    rw [this.cell, Nat.zero_add, ← hj, ← h6, List.getElem?_take, if_pos (by have := h.1; omega)]
    simp
theorem cellsN_put {l : List En} {k : Nat} (hk : k < l.length) : cellsN (l.take (k + 1)) = cellsN (l.take k) ++ enC l[k] := by
  rw [List.take_succ_eq_append_getElem hk, cellsN_app]
  simp [cellsN]
def PlainN (w : World) (leaf : Bool) (l : List En) (e : Ending) (w' : World) : Prop := ∃ A c, e = .returned (.agg #[.bool leaf, .slice A l.length c]) ∧ NodA w' A l.length c l ∧ Below w.heap.size w w'

set_option maxRecDepth 100000 in
set_option maxHeartbeats 8000000 in
theorem plain08_any (leaf : Bool) (A : Option Addr) (n c : Nat) (l : List En) (w : World) (h : NodA w A n c l) (hn : n ≤ 1000) :
    Calls Tryd.prog 10 #[.agg #[.bool leaf, .slice A n c]] w (PlainN w leaf l) := by
  have hmx : Tryd.prog.follows .mixedOrders = true := by kernel_rfl
  obtain ⟨j0, hj, jz0, jz1, jz2⟩ := info_parts reinfo
  have hz := zero_rnode
  have hze := zero_re
  have hzv := zero_rv
  have HA := Lib.hid h
  have HL := Lib.hid h.len
  obtain ⟨W, hW⟩ : ∃ W, ((w.alloc (.cells #[.bool leaf, .slice A n c] 24)).alloc (.cells #[.bool false, .slice none 0 0] 29)) = W := ⟨_, rfl⟩
  have BW : Below w.heap.size w W := hW ▸ ((Below.refl _ w).alloc (Nat.le_refl _) _).alloc (by simp) _
  have hX : Has W w.heap.size 24 #[.bool leaf, .slice A n c] := hW ▸ (Has.made w _ _).alloc _
  have hR : Has W (w.heap.size + 1) 29 #[.bool false, .slice none 0 0] := by
    have := Has.made (w.alloc (.cells #[.bool leaf, .slice A n c] 24)) 29 #[.bool false, .slice none 0 0]
    rw [hW] at this
    simpa using this
  have hs : W.heap.size = w.heap.size + 1 + 1 := by rw [← hW]; simp
  have e0 := hX.cell 0
  have e1 := hX.cell 1
  have HX := Lib.hid hX
  have HR := Lib.hid hR
  have HB := Lib.hid BW
  have HS := Lib.hid hs
  clear h BW hX hR hs
  go_enter Tryd.func10, Tryd.ntmps10
  go_wp2
  try rw [hW]
  go_loopw [4] (fun i wr => ∃ k : Nat, k ≤ n ∧ i = .int .i64 k ∧ ∃ v, Has wr W.heap.size 29 #[.bool leaf, v] ∧ Has wr (w.heap.size + 1) 29 #[.bool false, .slice none 0 0] ∧ Has wr w.heap.size 24 #[.bool leaf, .slice A n c] ∧ wr.ownsRow w.heap.size 58 5 v k (cellsN (l.take k)) ∧ Below w.heap.size w wr) (fun i _ => n - (intOf i).toNat)
  case atStart =>
    refine ⟨0, Nat.zero_le _, rfl, .slice none 0 0, ?_, HR.out.alloc _, HX.out.alloc _, ⟨rfl, .inl ⟨rfl, rfl⟩⟩, HB.out.alloc HB.out.size _⟩
    exact Has.made W 29 #[.bool leaf, .slice none 0 0]
  case round =>
    obtain ⟨k, hk, rfl, v, hq1, hq2, hq3, hq4, hq5⟩ := hrel
    obtain ⟨Av, cv, rfl, hcv1, hcv2⟩ := own_by hq4
    have Q1 := Lib.hid hq1
    have Q2 := Lib.hid hq2
    have Q3 := Lib.hid hq3
    have Q4 := Lib.hid hq4
    have Q5 := Lib.hid hq5
    have f0 := hq3.cell 0
    have f1 := hq3.cell 1
    by_cases hlt : k < n
    · have hkl : k < l.length := by rw [← HL.out]; exact hlt
      have hC := HA.out.below Q5.out
      obtain ⟨g, off, rfl, c0, c1, c2, c3, c4⟩ := hC.reads.eat hkl
      have hga : g < w.heap.size := by
        obtain ⟨g', off', hA', hc'⟩ := HA.out.reads (by rw [cellsN_len]; omega)
        injection hA' with hA'
        injection hA' with e1 e2 _
        subst e1 e2
        obtain ⟨x, hx⟩ : ∃ x, (cellsN l)[0]? = some x := ⟨_, List.getElem?_eq_getElem (by rw [cellsN_len]; omega)⟩
        exact World.block_lt_of_cell? w _ (hc' 0 x hx)
      have NX := Lib.hid (cellsN_put hkl)
      have i0 : (0 : Int) ≤ (k : Int) := by omega
      have i1 : (k : Int) < (n : Int) := by omega
      clear hC hq1 hq2 hq3 hq4 hq5 hcv1 hcv2
      generalize l[k] = y at *
      obtain ⟨yk, yd, far, sz, pg⟩ := y
      simp only [cstV, enC] at c0 c1 c2 c3 c4 NX
      generalize (⟨yd.toArray⟩ : ByteArray) = sd at *
      generalize (⟨yk.toArray⟩ : ByteArray) = sk at *
      obtain ⟨wv, hwv⟩ : ∃ wv, wr.heap.size = wv := ⟨_, rfl⟩
      obtain ⟨V, hV⟩ : ∃ V, wr.alloc (.cells #[.string sd, .bool far, .int .i64 sz, .int .i64 pg] 52) = V := ⟨_, rfl⟩
      have HV := Lib.hid (show Has V wv 52 #[.string sd, .bool far, .int .i64 sz, .int .i64 pg] from hwv ▸ hV ▸ Has.made wr _ _)
      have BV : Below wr.heap.size wr V := hV ▸ (Below.refl _ wr).alloc (Nat.le_refl _) _
      have BT : Below w.heap.size w V := below_step Q5.out BV
      have hXV := Q3.out.below BV Q3.out.lt
      have HXV := Lib.hid hXV
      have hNV := Lib.hid (Q1.out.below BV Q1.out.lt)
      have hRV := Lib.hid (Q2.out.below BV Q2.out.lt)
      have hc0 : V.cell? ⟨g, off + k * 5, none⟩ = some (.string sk) := cell_below (w := wr) c0 BV
      have OV := Lib.hid (ceOwnBelow Q4.out BV)
      have hC0 : (fun w' : World => w'.cell? ⟨W.heap.size, 1, none⟩ = some (.slice Av k cv)) V.drew := hNV.out.cell 1
      have hS0 : (fun w' : World => Has w' w.heap.size 24 #[.bool leaf, .slice (some ⟨g, off, none⟩) n c] ∧ Has w' wv 52 #[.string sd, .bool far, .int .i64 sz, .int .i64 pg] ∧ w'.cell? ⟨g, off + k * 5, none⟩ = some (.string sk)) V.drew := ⟨hXV, HV.out, hc0⟩
      clear hXV hc0 hkl
      subst hwv
      go_wp2
      try rw [hV]
      rename_i K hK
      refine wp_heldJQ (fun w' : World => w'.cell? ⟨W.heap.size, 1, none⟩ = some (.slice Av k cv)) (fun w' : World => Has w' w.heap.size 24 #[.bool leaf, .slice (some ⟨g, off, none⟩) n c] ∧ Has w' wr.heap.size 52 #[.string sd, .bool far, .int .i64 sz, .int .i64 pg] ∧ w'.cell? ⟨g, off + k * 5, none⟩ = some (.string sk)) 19 hmx ?_
      refine wpAnyJ_takeS (i := 0) (v := .pointer (some ⟨W.heap.size, 1, none⟩)) rfl (by kernel_rfl) (by kernel_rfl) (by kernel_rfl) (by decide) (fun _ _ _ h => h) (Or.inl ⟨by rfl, ?_⟩) (.inr hC0) hS0 ?_
      · rintro w6 ⟨s1, s2, s3⟩
        go_simp
      simp only [Act.put, List.setIfInBounds_toArray, List.set_cons_zero, List.set_cons_succ, List.getElem_toArray, List.getElem_cons_zero]
      refine wpAnyJ_take (i := 1) (v := .slice Av k cv) rfl (by kernel_rfl) (by kernel_rfl) (by kernel_rfl) (by kernel_rfl) (by decide) (by kernel_rfl) (fun _ _ _ h => h) (Or.inl ⟨by rfl, ?_⟩) hC0 hS0 ?_
      · rintro w6 c1
        go_simp
      simp only [Act.put, List.setIfInBounds_toArray, List.set_cons_zero, List.set_cons_succ, List.getElem_toArray, List.getElem_cons_zero, List.getElem_cons_succ]
      refine wpAnyJ_takeS (i := 2) (v := .pointer (some ⟨w.heap.size, 1, none⟩)) rfl (by kernel_rfl) (by kernel_rfl) (by kernel_rfl) (by decide) (fun _ _ _ h => h) (Or.inl ⟨by rfl, ?_⟩) (.inr hC0) hS0 ?_
      · rintro w6 ⟨s1, s2, s3⟩
        go_simp
      simp only [Act.put, List.setIfInBounds_toArray, List.set_cons_zero, List.set_cons_succ, List.getElem_toArray, List.getElem_cons_zero, List.getElem_cons_succ]
      refine wpAnyJ_takeS (i := 3) (v := .slice (some ⟨g, off, none⟩) n c) rfl (by kernel_rfl) (by kernel_rfl) (by kernel_rfl) (by decide) (fun _ _ _ h => h) (Or.inl ⟨by rfl, ?_⟩) (.inr hC0) hS0 ?_
      · rintro w6 ⟨s1, s2, s3⟩
        have d1 := s1.cell 1
        go_simp
      simp only [Act.put, List.setIfInBounds_toArray, List.set_cons_zero, List.set_cons_succ, List.getElem_toArray, List.getElem_cons_zero, List.getElem_cons_succ]
      refine wpAnyJ_takeS (i := 4) (v := .int .i64 (k : Int)) rfl (by kernel_rfl) (by kernel_rfl) (by kernel_rfl) (by decide) (fun _ _ _ h => h) (Or.inl ⟨by rfl, ?_⟩) (.inr hC0) hS0 ?_
      · rintro w6 ⟨s1, s2, s3⟩
        go_simp
      simp only [Act.put, List.setIfInBounds_toArray, List.set_cons_zero, List.set_cons_succ, List.getElem_toArray, List.getElem_cons_zero, List.getElem_cons_succ]
      refine wpAnyJ_takeS (i := 5) (v := .pointer (some ⟨g, off + k * 5, none⟩)) rfl (by kernel_rfl) (by kernel_rfl) (by kernel_rfl) (by decide) (fun _ _ _ h => h) (Or.inl ⟨by rfl, ?_⟩) (.inr hC0) hS0 ?_
      · rintro w6 ⟨s1, s2, s3⟩
        go_simp
      simp only [Act.put, List.setIfInBounds_toArray, List.set_cons_zero, List.set_cons_succ, List.getElem_toArray, List.getElem_cons_zero, List.getElem_cons_succ]
      refine wpAnyJ_takeS (i := 6) (v := .pointer (some ⟨g, off + k * 5, none⟩)) rfl (by kernel_rfl) (by kernel_rfl) (by kernel_rfl) (by decide) (fun _ _ _ h => h) (Or.inl ⟨by rfl, ?_⟩) (.inr hC0) hS0 ?_
      · rintro w6 ⟨s1, s2, s3⟩
        go_simp
      simp only [Act.put, List.setIfInBounds_toArray, List.set_cons_zero, List.set_cons_succ, List.getElem_toArray, List.getElem_cons_zero, List.getElem_cons_succ]
      refine wpAnyJ_takeS (i := 7) (v := .string sk) rfl (by kernel_rfl) (by kernel_rfl) (by kernel_rfl) (by decide) (fun _ _ _ h => h) (Or.inl ⟨by rfl, ?_⟩) (.inr hC0) hS0 ?_
      · rintro w6 ⟨s1, s2, s3⟩
        go_simp
      simp only [Act.put, List.setIfInBounds_toArray, List.set_cons_zero, List.set_cons_succ, List.getElem_toArray, List.getElem_cons_zero, List.getElem_cons_succ]
      refine wpAnyJ_takeS (i := 8) (v := .pointer (some ⟨wr.heap.size, 0, none⟩)) rfl (by kernel_rfl) (by kernel_rfl) (by kernel_rfl) (by decide) (fun _ _ _ h => h) (Or.inl ⟨by rfl, ?_⟩) (.inr hC0) hS0 ?_
      · rintro w6 ⟨s1, s2, s3⟩
        go_simp
      simp only [Act.put, List.setIfInBounds_toArray, List.set_cons_zero, List.set_cons_succ, List.getElem_toArray, List.getElem_cons_zero, List.getElem_cons_succ]
      refine wpAnyJ_takeS (i := 9) (v := .string sd) rfl (by kernel_rfl) (by kernel_rfl) (by kernel_rfl) (by decide) (fun _ _ _ h => h) (Or.inl ⟨by rfl, ?_⟩) (.inr hC0) hS0 ?_
      · rintro w6 ⟨s1, s2, s3⟩
        have d1 := s2.cell 0
        go_simp
      simp only [Act.put, List.setIfInBounds_toArray, List.set_cons_zero, List.set_cons_succ, List.getElem_toArray, List.getElem_cons_zero, List.getElem_cons_succ]
      refine wpAnyJ_takeS (i := 10) (v := .pointer (some ⟨wr.heap.size, 1, none⟩)) rfl (by kernel_rfl) (by kernel_rfl) (by kernel_rfl) (by decide) (fun _ _ _ h => h) (Or.inl ⟨by rfl, ?_⟩) (.inr hC0) hS0 ?_
      · rintro w6 ⟨s1, s2, s3⟩
        go_simp
      simp only [Act.put, List.setIfInBounds_toArray, List.set_cons_zero, List.set_cons_succ, List.getElem_toArray, List.getElem_cons_zero, List.getElem_cons_succ]
      refine wpAnyJ_takeS (i := 11) (v := .bool far) rfl (by kernel_rfl) (by kernel_rfl) (by kernel_rfl) (by decide) (fun _ _ _ h => h) (Or.inl ⟨by rfl, ?_⟩) (.inr hC0) hS0 ?_
      · rintro w6 ⟨s1, s2, s3⟩
        have d1 := s2.cell 1
        go_simp
      simp only [Act.put, List.setIfInBounds_toArray, List.set_cons_zero, List.set_cons_succ, List.getElem_toArray, List.getElem_cons_zero, List.getElem_cons_succ]
      refine wpAnyJ_takeS (i := 12) (v := .pointer (some ⟨wr.heap.size, 2, none⟩)) rfl (by kernel_rfl) (by kernel_rfl) (by kernel_rfl) (by decide) (fun _ _ _ h => h) (Or.inl ⟨by rfl, ?_⟩) (.inr hC0) hS0 ?_
      · rintro w6 ⟨s1, s2, s3⟩
        go_simp
      simp only [Act.put, List.setIfInBounds_toArray, List.set_cons_zero, List.set_cons_succ, List.getElem_toArray, List.getElem_cons_zero, List.getElem_cons_succ]
      refine wpAnyJ_takeS (i := 13) (v := .int .i64 sz) rfl (by kernel_rfl) (by kernel_rfl) (by kernel_rfl) (by decide) (fun _ _ _ h => h) (Or.inl ⟨by rfl, ?_⟩) (.inr hC0) hS0 ?_
      · rintro w6 ⟨s1, s2, s3⟩
        have d1 := s2.cell 2
        go_simp
      simp only [Act.put, List.setIfInBounds_toArray, List.set_cons_zero, List.set_cons_succ, List.getElem_toArray, List.getElem_cons_zero, List.getElem_cons_succ]
      refine wpAnyJ_takeS (i := 14) (v := .pointer (some ⟨wr.heap.size, 3, none⟩)) rfl (by kernel_rfl) (by kernel_rfl) (by kernel_rfl) (by decide) (fun _ _ _ h => h) (Or.inl ⟨by rfl, ?_⟩) (.inr hC0) hS0 ?_
      · rintro w6 ⟨s1, s2, s3⟩
        go_simp
      simp only [Act.put, List.setIfInBounds_toArray, List.set_cons_zero, List.set_cons_succ, List.getElem_toArray, List.getElem_cons_zero, List.getElem_cons_succ]
      refine wpAnyJ_takeS (i := 15) (v := .int .i64 pg) rfl (by kernel_rfl) (by kernel_rfl) (by kernel_rfl) (by decide) (fun _ _ _ h => h) (Or.inl ⟨by rfl, ?_⟩) (.inr hC0) hS0 ?_
      · rintro w6 ⟨s1, s2, s3⟩
        have d1 := s2.cell 3
        go_simp
      simp only [Act.put, List.setIfInBounds_toArray, List.set_cons_zero, List.set_cons_succ, List.getElem_toArray, List.getElem_cons_zero, List.getElem_cons_succ]
      refine wpAnyJ_one (i := 16) (by kernel_rfl) rfl (fun K5 hK5 => ?_)
      go_simp
      refine hK5.out _ _ (.inr hC0) hS0 ?_
      clear hK5 K5
      refine wpAnyJ_one (i := 17) (by kernel_rfl) rfl (fun K5 hK5 => ?_)
      go_simp
      refine hK5.out _ _ (.inr hC0) hS0 ?_
      clear hK5 K5
      refine wpAnyJ_one (i := 18) (by kernel_rfl) rfl (fun K5 hK5 => ?_)
      go_simp
      obtain ⟨w4, hw4⟩ : ∃ w4, (V.alloc (.cells #[.string sk, .string sd, .bool far, .int .i64 sz, .int .i64 pg] 58)).drew = w4 := ⟨_, rfl⟩
      try rw [hw4]
      have B4 : Below V.heap.size V w4 := hw4 ▸ ((Below.refl V.heap.size V).alloc (Nat.le_refl _) _).drew
      have hC4 : (fun w' : World => w'.cell? ⟨W.heap.size, 1, none⟩ = some (.slice Av k cv)) w4 := (hNV.out.below B4 hNV.out.lt).cell 1
      have hS4 : (fun w' : World => Has w' w.heap.size 24 #[.bool leaf, .slice (some ⟨g, off, none⟩) n c] ∧ Has w' wr.heap.size 52 #[.string sd, .bool far, .int .i64 sz, .int .i64 pg] ∧ w'.cell? ⟨g, off + k * 5, none⟩ = some (.string sk)) w4 := ⟨HXV.out.below B4 HXV.out.lt, HV.out.below B4 HV.out.lt, cell_below (w := V) hS0.2.2 B4⟩
      have O4 := ceOwnBelow OV.out B4
      have LS : ∀ j y, ([.string sk, .string sd, .bool far, .int .i64 sz, .int .i64 pg] : List Value)[j]? = some y → w4.cell? ((⟨V.heap.size, 0, none⟩ : Addr).add j) = some y := by
        rw [← hw4]
        exact lies_all V [.string sk, .string sd, .bool far, .int .i64 sz, .int .i64 pg] 58
      have BT4 : Below w.heap.size w w4 := below_step BT B4
      refine hK5.out _ _ (.inr hC4) hS4 ?_
      clear hK5 K5
      refine wpAnyJ_one (i := 19) (by kernel_rfl) rfl (fun K5 hK5 => ?_)
      refine step_append_lies _ rfl _ _ 27 rfl w.heap.size 58 j0 _ 5 56 Tryd.underlying27 hj jz0 jz1 jz2 rfl (by decide) _ k _ rfl O4 ⟨V.heap.size, 0, none⟩ 1 1 [.string sk, .string sd, .bool far, .int .i64 sz, .int .i64 pg] rfl rfl LS (by intro u hu; simp at hu; rcases hu with rfl | rfl | rfl | rfl | rfl <;> rfl) (by decide) (by unfold maxLen; omega) (by omega) BT4.size _ rfl ?_
      intro gn capn w5 h7 h8 h9 h10
      have XN := (hNV.out.below B4 hNV.out.lt).kept_own O4 (by decide) h8
      have XB := Lib.hid ((hRV.out.below B4 hRV.out.lt).kept_own O4 (by decide) h8)
      have B5 := Lib.hid (below_own8 BT4 h8 O4 BT4.size)
      have O5 := Lib.hid h7
      have cn := XN.cell 1
      have fn := XN.free 1
      have XN := Lib.hid XN
      have hS5 : (fun w' : World => Has w' w.heap.size 24 #[.bool leaf, .slice (some ⟨g, off, none⟩) n c] ∧ Has w' wr.heap.size 52 #[.string sd, .bool far, .int .i64 sz, .int .i64 pg] ∧ w'.cell? ⟨g, off + k * 5, none⟩ = some (.string sk)) w5 := ⟨hS4.1.kept_own O4 (by decide) h8, hS4.2.1.kept_own O4 (by decide) h8, by rw [B5.out.cell hga, ← BT4.cell hga]; exact hS4.2.2⟩
      clear h7 h8 h9 h10
      refine hK5.out _ _ (.inl (by kernel_rfl)) hS5 ?_
      clear hK5 K5
      simp only [Act.put, List.setIfInBounds_toArray, List.set_cons_zero, List.set_cons_succ, List.getElem_toArray, List.getElem_cons_zero, List.getElem_cons_succ]
      refine wpAnyJ_takeS (i := 20) (v := .pointer (some ⟨W.heap.size, 1, none⟩)) rfl (by kernel_rfl) (by kernel_rfl) (by kernel_rfl) (by decide) (fun _ _ _ h => h) (Or.inl ⟨by rfl, ?_⟩) (.inl (by kernel_rfl)) hS5 ?_
      · rintro w6 ⟨s1, s2, s3⟩
        go_simp
      simp only [Act.put, List.setIfInBounds_toArray, List.set_cons_zero, List.set_cons_succ, List.getElem_toArray, List.getElem_cons_zero, List.getElem_cons_succ]
      refine wpAnyJ_one (i := 21) (by kernel_rfl) rfl (fun K5 hK5 => ?_)
      go_simp
      have hS6 : (fun w' : World => Has w' w.heap.size 24 #[.bool leaf, .slice (some ⟨g, off, none⟩) n c] ∧ Has w' wr.heap.size 52 #[.string sd, .bool far, .int .i64 sz, .int .i64 pg] ∧ w'.cell? ⟨g, off + k * 5, none⟩ = some (.string sk)) (w5.setCell ⟨W.heap.size, 1, none⟩ (.slice (some ⟨gn, 0, none⟩) (k + 1) capn)) := ⟨hS5.1.away (p := ⟨W.heap.size, 1, none⟩) (by show w.heap.size ≠ W.heap.size; have := HS.out; omega) _, hS5.2.1.away (p := ⟨W.heap.size, 1, none⟩) (hS5.2.1.apart XN.out (by decide)) _, (only_cell (by have := HS.out; omega) 1 _).trans hS5.2.2⟩
      refine hK5.out _ _ (.inl (by kernel_rfl)) hS6 ?_
      clear hK5 K5
      refine wpAnyJ_done (by kernel_rfl) ?_ _
      refine hK _ _ ?_
      go_wp2
      go_roundw
      case rel =>
        refine ⟨k + 1, by omega, by go_num, _, XN.out.store 1 _, XB.out.away (p := ⟨W.heap.size, 1, none⟩) (by show w.heap.size + 1 ≠ W.heap.size; have := HS.out; omega) _, hS6.1, ?_, B5.out.setCell (p := ⟨W.heap.size, 1, none⟩) (by show w.heap.size ≤ W.heap.size; have := HS.out; omega) _⟩
        rw [NX.out]
        exact own_cell O5.out XN.out (by decide) 1 _
      case measure => simp [intOf]; omega
    · obtain rfl : k = n := by omega
      have e : l.take k = l := List.take_of_length_le (by rw [← HL.out]; exact Nat.le_refl _)
      rw [e] at Q4
      have d0 := hq1.cell 0
      have d1 := hq1.cell 1
      have f0 := hq2.free 0
      have f1 := hq2.free 1
      have h0 := hq2.cell 0
      have h1 := hq2.cell 1
      clear hq1 hq2 hq3 hq4 hq5 e
      obtain ⟨w3, hw3⟩ : ∃ w3 : World, w3 = wr := ⟨_, rfl⟩
      subst hw3
      go_wp2
      have k1 := (Q2.out.store 0 (.bool leaf)).store 1 (.slice Av k cv)
      have q0 := k1.cell 0
      have q1 := k1.cell 1
      obtain ⟨A2, c2, hv2, hN⟩ := NodA.of_ownT (own_cell (own_cell Q4.out Q2.out (by decide) 0 (.bool leaf)) (Q2.out.store 0 (.bool leaf)) (by decide) 1 (.slice Av k cv)) HA.out.strs
      injection hv2 with e1 e2 e3
      subst e1 e3
      have hkl := HL.out
      subst hkl
      refine ⟨rfl, .agg #[.bool leaf, .slice Av l.length cv], ?_, Av, cv, rfl, hN, ?_⟩
      · simp at q0 q1
        simp [results, Tryd.f10, go_sem, q0, q1]
      · exact (Q5.out.setCell (p := ⟨w.heap.size + 1, 0, none⟩) (by show w.heap.size ≤ w.heap.size + 1; omega) _).setCell (p := ⟨w.heap.size + 1, 1, none⟩) (by show w.heap.size ≤ w.heap.size + 1; omega) _

end Go.Proofs.YtnponjdnjkegmaaDoor
end

section
namespace Go.Proofs.YtnponjdnjkegmaaDoor
open Go.RowKit
set_option linter.unusedVariables false

theorem ret_bool {a b : Bool} (h : a = b) : Ending.returned (.bool a) = .returned (.bool b) := by rw [h]
set_option maxRecDepth 100000 in
set_option maxHeartbeats 4000000 in
theorem r8Fine_any (e : En) (w : World) (hd : e.d.length ≤ maxLen) : Calls Tryd.prog 30 #[valV e] w fun r w' => r = .returned (.bool (leafB e)) ∧ Below w.heap.size w w' := by
  have HV := Lib.hid (valB_leaf e)
  obtain ⟨k, d, far, sz, pg⟩ := e
  unfold okV at HV
  unfold valV cstV
  simp only at hd HV ⊢
  unfold maxLen at hd
  have hz : (⟨d.toArray⟩ : ByteArray).size = d.length := size_list d
  have hn : ((⟨d.toArray⟩ : ByteArray).toList = []) = (d = []) := by rw [ByteArray.toList_eq]
  obtain ⟨t, ht⟩ : ∃ t : ByteArray, (⟨d.toArray⟩ : ByteArray) = t := ⟨_, rfl⟩
  rw [ht] at hz hn ⊢
  clear ht
  obtain ⟨b, hb⟩ : ∃ b, leafB ⟨k, d, far, sz, pg⟩ = b := ⟨_, rfl⟩
  rw [hb] at HV ⊢
  clear hb
  rw [← hn, ← hz] at HV
  rw [← hz] at hd
  clear hz hn
  cases far
  · go_enter Tryd.func30, Tryd.ntmps30
    go_wp2
    all_goals
      go_ret
      refine ⟨ret_bool ?_, (Below.refl _ _).alloc (Nat.le_refl _) _⟩
      have hv := HV.out
      rw [Bool.eq_iff_iff, hv]
      first | (simp; done) | (simp_all; done) | (simp_all; omega)
  · go_enter Tryd.func30, Tryd.ntmps30
    go_wp2
    all_goals
      go_ret
      refine ⟨ret_bool ?_, (Below.refl _ _).alloc (Nat.le_refl _) _⟩
      have hv := HV.out
      rw [Bool.eq_iff_iff, hv]
      first | (simp; done) | (simp_all; done) | (simp_all; omega)


set_option maxRecDepth 100000 in
set_option maxHeartbeats 4000000 in
theorem r8Same_yes (leaf : Bool) (A B : Option Addr) (n c d : Nat) (l : List En) (w : World) (h : NodA w A n c l) (h' : NodA w B n d l) (hn : n ≤ 1000000) :
    Calls Tryd.prog 22 #[.agg #[.bool leaf, .slice A n c], .agg #[.bool leaf, .slice B n d]] w fun e w' => e = .returned (.bool true) ∧ Below w.heap.size w w' := by
  obtain ⟨W, hW⟩ : ∃ W, ((w.alloc (.cells #[.bool leaf, .slice A n c] 29)).alloc (.cells #[.bool leaf, .slice B n d] 29)) = W := ⟨_, rfl⟩
  have BW : Below w.heap.size w W := hW ▸ ((Below.refl _ w).alloc (Nat.le_refl _) _).alloc (by simp) _
  have hX : Has W w.heap.size 29 #[.bool leaf, .slice A n c] := hW ▸ (Has.made w _ _).alloc _
  have hR : Has W (w.heap.size + 1) 29 #[.bool leaf, .slice B n d] := by
    have := Has.made (w.alloc (.cells #[.bool leaf, .slice A n c] 29)) 29 #[.bool leaf, .slice B n d]
    rw [hW] at this
    simpa using this
  have e0 := hX.cell 0
  have e1 := hX.cell 1
  have f0 := hR.cell 0
  have f1 := hR.cell 1
  have HA := Lib.hid (h.below BW)
  have HC := Lib.hid (h'.below BW)
  have HL := Lib.hid h.len
  have HB := Lib.hid BW
  have hrm := h.room
  have hrd := h'.room
  clear h h' BW hX hR
  go_enter Tryd.func22, Tryd.ntmps22
  go_wp2
  try rw [hW]
  go_loopw [5] (fun i wr => ∃ (k : Nat) (j : Nat), k ≤ n ∧ i = .int .i64 k ∧ wr = W.drewN j) (fun i _ => n - (intOf i).toNat)
  case atStart => exact ⟨0, 0, Nat.zero_le _, rfl, rfl⟩
  case round =>
    obtain ⟨k, j, hk, rfl, rfl⟩ := hrel
    by_cases hlt : k < n
    · have hkl : k < l.length := by rw [← HL.out]; exact hlt
      obtain ⟨g, off, rfl, c0, c1, c2, c3, c4⟩ := HA.out.reads.eat hkl
      obtain ⟨g', off', rfl, d0, d1, d2, d3, d4⟩ := HC.out.reads.eat hkl
      have i0 : (0 : Int) ≤ (k : Int) := by omega
      have i1 : (k : Int) < (n : Int) := by omega
      generalize l[k] = y at *
      obtain ⟨yk, yd, far, sz, pg⟩ := y
      simp only [cstV] at c0 c1 c2 c3 c4 d0 d1 d2 d3 d4
      generalize (⟨yd.toArray⟩ : ByteArray) = sd at *
      generalize (⟨yk.toArray⟩ : ByteArray) = sk at *
      go_wp2
      go_region
      go_wp2
      go_roundw
      case rel => exact ⟨k + 1, j + 1, by omega, by go_num, rfl⟩
      case measure => simp [intOf]; omega
    · obtain rfl : k = n := by omega
      go_wp2
      go_ret
      exact ⟨rfl, below_drewN HB.out _⟩
end Go.Proofs.YtnponjdnjkegmaaDoor
end
