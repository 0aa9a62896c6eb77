import Derived.Test.YtpaklhifnndeoaaJ01
import Derived.Test.YtpaklhifnndeoaaJ03
import Derived.Lib.AppendZeros
import Derived.Lib.MinMax
/- Of a claim's texts, joined: Tqa. No statement but in the last. -/
namespace Go.Proofs.Ytpaklhifnndeoaa
open Go.RowKit
set_option linter.unusedVariables false

structure Hs where
  a : Option Addr
  n : Nat
  c : Nat
  l : List Value
def Hs.v (h : Hs) : Value := .slice h.a h.n h.c
structure CellsS (F : Nat → Prop) (s : Nat) (w : World) (A : Option Addr) (n c : Nat) (q : List Hs) : Prop where
  len : n = q.length
  reads : Reads w A (q.map Hs.v)
  each : ∀ h ∈ q, RwF F w h.a h.n h.c s h.l ∧ ∀ u ∈ h.l, u.oneCell' = true
theorem CellsS.below {F : Nat → Prop} {s : Nat} {w w' : World} {A : Option Addr} {n c : Nat} {q : List Hs} (h : CellsS F s w A n c q) (hb : Below w.heap.size w w') : CellsS F s w' A n c q :=
  ⟨h.len, h.reads.keep_ hb, fun x hx => ⟨(h.each x hx).1.below hb, (h.each x hx).2⟩⟩
theorem CellsS.at {F : Nat → Prop} {s : Nat} {w : World} {A : Option Addr} {n c : Nat} {q : List Hs} (h : CellsS F s w A n c q) {k : Nat} (hk : k < q.length) :
    ∃ g off, A = some ⟨g, off, none⟩ ∧ w.cell? ⟨g, off + k, none⟩ = some (.slice (q[k]).a (q[k]).n (q[k]).c) := by
  obtain ⟨g, off, hA, hc⟩ := h.reads (by simp; omega)
  exact ⟨g, off, hA, hc k _ (by simp [List.getElem?_eq_getElem hk, Hs.v])⟩
theorem CellsS.hdr {F : Nat → Prop} {s : Nat} {w : World} {A : Option Addr} {n c : Nat} {q : List Hs} (h : CellsS F s w A n c q) {k : Nat} (hk : k < q.length) : RwF F w (q[k]).a (q[k]).n (q[k]).c s (q[k]).l ∧ ∀ u ∈ (q[k]).l, u.oneCell' = true := h.each _ (List.getElem_mem hk)
def flatH15 (q : List Hs) : List Value := q.flatMap Hs.l
def cntH (q : List Hs) : Nat := (q.map Hs.n).sum
theorem flatH15_snoc {q : List Hs} {k : Nat} (hk : k < q.length) : flatH15 (q.take (k + 1)) = flatH15 (q.take k) ++ (q[k]).l := by
  unfold flatH15
  rw [List.take_succ_eq_append_getElem hk, List.flatMap_append]
  simp
theorem cntH_snoc {q : List Hs} {k : Nat} (hk : k < q.length) : cntH (q.take (k + 1)) = cntH (q.take k) + (q[k]).n := by
  unfold cntH
  rw [List.take_succ_eq_append_getElem hk, List.map_append, List.sum_append]
  simp
theorem cntH_mono (q : List Hs) (k : Nat) : cntH (q.take k) ≤ cntH q := by
  have : cntH q = cntH (q.take k) + cntH (q.drop k) := by
    unfold cntH
    rw [← List.sum_append, ← List.map_append, List.take_append_drop]
  omega
theorem s15info : (Try.prog.info? 9).map (fun i => (i.zero, i.size, i.bytes)) = some (some (.string ⟨#[]⟩), 1, 16) := by kernel_rfl
theorem v15info : (Try.prog.info? 84).map (fun i => (i.zero, i.size, i.bytes)) = some (some (.agg #[.string ⟨#[]⟩, .slice none 0 0]), 2, 40) := by kernel_rfl
theorem n15info : (Try.prog.info? 29).map (fun i => (i.zero, i.size, i.bytes)) = some (some (.agg #[.int .i64 0, .bool false, .slice none 0 0, .slice none 0 0, .slice none 0 0]), 5, 88) := by kernel_rfl
set_option maxRecDepth 100000 in
set_option maxHeartbeats 1000000 in
theorem growS_any (n : Nat) (hn : n ≤ 1000000) (w : World) :
    Calls Try.prog 98 #[.slice none 0 0, .int .i64 n] w fun e w' => ∃ v, e = .returned v ∧ w'.ownsRow w.heap.size 9 1 v 0 [] ∧ Below w.heap.size w w' := by
  obtain ⟨i0, hi, hz0, hz1, hz2⟩ := info_parts s15info
  rcases Nat.eq_zero_or_pos n with rfl | h0
  · go_enter Try.func98, Try.ntmps98
    go_wp2
    go_ret
    exact ⟨_, rfl, ⟨rfl, .inl ⟨rfl, rfl⟩⟩, Below.refl _ _⟩
  · have hA := fun ty => Lib.run_append_nil_zeros (P := Try.prog) w 25 3 ty 9 i0 (.string ⟨#[]⟩) .i64 .i64 Try.underlying25 Try.underlying3 hi hz0 n h0 (by rw [hz1]; decide) (by omega) (by rw [hz2]; omega)
    have hge := grownCap_ge w n 0 9
    have hle := grownCap_le_maxLen w n 0 9 (by unfold maxLen; omega)
    have hO := World.ownsRow_made (base := w.heap.size) (e := 9) (size := 1) w.drew (Builtin.zeroCells (Value.cells (.string ⟨#[]⟩)) n ++ Builtin.zeroCells (Value.cells (.string ⟨#[]⟩)) (grownCap w n 0 9 - n)) (grownCap w n 0 9) (Nat.le_refl _) hle (by rw [Array.size_append, size_zeroCells, size_zeroCells]; show n * 1 + _ * 1 = _ * 1; rw [← Nat.add_mul]; congr 1; omega)
    have hB : Below w.heap.size w (w.drew.alloc (.cells (Builtin.zeroCells (Value.cells (.string ⟨#[]⟩)) n ++ Builtin.zeroCells (Value.cells (.string ⟨#[]⟩)) (grownCap w n 0 9 - n)) 9)) := (Below.refl _ w).drew.alloc (Nat.le_refl _) _
    generalize (w.drew.alloc (.cells (Builtin.zeroCells (Value.cells (.string ⟨#[]⟩)) n ++ Builtin.zeroCells (Value.cells (.string ⟨#[]⟩)) (grownCap w n 0 9 - n)) 9)) = W1 at *
    generalize grownCap w n 0 9 = G at *
    have HA := Lib.hid hA
    have HO := Lib.hid hO
    have HB := Lib.hid hB
    have e0 : w.drew.heap.size = w.heap.size := rfl
    rw [e0] at HO
    unfold maxLen at hle
    clear hA hO hB e0
    go_enter Try.func98, Try.ntmps98
    go_wp2_with (at_builtin; refine Lib.wpList_append_run _ rfl _ _ _ _ rfl _ _ rfl rfl _ _ (HA.out _) ?_)
    go_ret
    exact ⟨_, rfl, HO.out, HB.out⟩
set_option maxHeartbeats 4000000 in
theorem concatS_any (F : Nat → Prop) (A : Option Addr) (n c : Nat) (q : List Hs) (w : World) (h : CellsS F 1 w A n c q) (hl : cntH q ≤ 100000) (hn : n ≤ 100000) :
    Calls Try.prog 92 #[.slice A n c] w fun e w' => ∃ v, e = .returned v ∧ w'.ownsRow w.heap.size 9 1 v (cntH q) (flatH15 q) ∧ Below w.heap.size w w' := by
  have HA := Lib.hid h
  have HL := Lib.hid h.len
  have HG := Lib.hid (fun w => growS_any (cntH q) (by omega) w)
  have HM := Lib.hid (cntH_mono q)
  obtain ⟨i0, hi, hz0, hz1, hz2⟩ := info_parts s15info
  clear h
  go_enter Try.func92, Try.ntmps92
  go_wp2
  go_loop [3, 11] (fun s i => ∃ k : Nat, k ≤ n ∧ i = .int .i64 k ∧ s = .int .i64 (cntH (q.take k) : Int)) (fun _ i => n - (intOf i).toNat)
  case atStart => exact ⟨0, Nat.zero_le _, rfl, rfl⟩
  case round =>
    obtain ⟨k, hk, rfl, rfl⟩ := hrel
    by_cases hlt : k < n
    · have hkl : k < q.length := by rw [← HL.out]; exact hlt
      obtain ⟨g, off, rfl, hc⟩ := HA.out.at hkl
      have h1 := cntH_snoc hkl
      have h2 := HM.out (k + 1)
      rw [h1] at h2
      have HS := Lib.hid h1
      generalize cntH (q.take k) = x at *
      generalize q[k] = y at *
      have hb : x + y.n ≤ 1000000 := by omega
      have hge : ¬ ((x : Int) + (y.n : Int) < 0) := by omega
      clear h1 h2 hkl
      go_wp2
      go_round
      case rel => exact ⟨k + 1, by omega, by go_num, by rw [HS.out]; go_num⟩
      case measure => simp [intOf]; omega
    · obtain rfl : k = n := by omega
      have e : q.take k = q := List.take_of_length_le (by rw [← HL.out]; exact Nat.le_refl _)
      rw [e]
      go_wp2_with (go_at_call 98; (with_reducible refine (HG.out _).mono ?_); rintro r1 w1 ⟨v1, rfl, o1, b1⟩; have O1 := Lib.hid o1; have B1 := Lib.hid b1; clear o1 b1)
      go_loopw [6, 27] (fun v i wr => ∃ m : Nat, m ≤ k ∧ i = .int .i64 m ∧ wr.ownsRow w.heap.size 9 1 v (cntH (q.take m)) (flatH15 (q.take m)) ∧ Below w.heap.size w wr) (fun _ i _ => k - (intOf i).toNat)
      case atStart => exact ⟨0, Nat.zero_le _, rfl, O1.out, B1.out⟩
      case round =>
        obtain ⟨m, hm, rfl, ho, hb⟩ := hrel
        have HO := Lib.hid ho
        have HB := Lib.hid hb
        clear ho hb
        by_cases hlt2 : m < k
        · have hkl : m < q.length := by rw [← HL.out]; exact hlt2
          have hC := HA.out.below HB.out
          obtain ⟨g, off, rfl, hc⟩ := hC.at hkl
          have hy := hC.hdr hkl
          have h1 := flatH15_snoc hkl
          have h3 := cntH_snoc hkl
          have h2 := HM.out (m + 1)
          rw [h3] at h2
          have HS := Lib.hid h1
          have HS3 := Lib.hid h3
          generalize flatH15 (q.take m) = x at *
          generalize cntH (q.take m) = X at *
          generalize q[m] = y at *
          have HY := Lib.hid hy
          clear hy h1 h3 hkl hC
          go_wp2_with (at_builtin; refine wpList_append_rw rfl _ _ 25 rfl w.heap.size 9 i0 _ 1 16 Try.underlying25 hi hz0 hz1 hz2 rfl (by decide) _ X _ rfl HO.out y.a y.n y.c y.l rfl HY.out.1 HY.out.2 (by unfold maxLen; omega) (by omega) HB.out.size ?_; intro v4 w4 h7 h8; have O4 := Lib.hid h7; have B4 := Lib.hid (HB.out.grown h8 HB.out.size (fun k hk => (HO.out.lt k hk).1)); clear h7 h8)
          go_roundw
          case rel => exact ⟨m + 1, by omega, by go_num, by rw [HS.out, HS3.out]; exact O4.out, B4.out⟩
          case measure => simp [intOf]; omega
        · obtain rfl : m = k := by omega
          have e : q.take m = q := List.take_of_length_le (by rw [← HL.out]; exact Nat.le_refl _)
          rw [e] at HO
          obtain ⟨w3, hw3⟩ : ∃ w3 : World, w3 = wr := ⟨_, rfl⟩
          subst hw3
          obtain ⟨A2, c2, rfl, _⟩ := RwF.own HO.out
          go_wp2
          go_ret
          exact ⟨_, rfl, HO.out, HB.out⟩
set_option maxRecDepth 100000 in
set_option maxHeartbeats 4000000 in
theorem spliceS_any (F : Nat → Prop) (A B : Option Addr) (n c m cm f t f' t' : Nat) (xs ys : List Value) (w : World) (h : RwF F w A n c 1 xs) (h1 : ∀ u ∈ xs, u.oneCell' = true) (h2 : RwF F w B m cm 1 ys) (h3 : ∀ u ∈ ys, u.oneCell' = true) (hn : n ≤ 1000) (hm : m ≤ 1000) (ht : t ≤ 9223372036854775807) (hf : f ≤ 9223372036854775807) (hf' : f' = min f n) (ht' : t' = min t n) (hft : f' ≤ t') :
    Calls Try.prog 86 #[.slice A n c, .int .i64 (f : Int), .int .i64 (t : Int), .slice B m cm] w fun e w' => ∃ v, e = .returned v ∧ w'.ownsRow w.heap.size 9 1 v (f' + (m + (n - t'))) (xs.take (f' * 1) ++ (ys ++ xs.drop (t' * 1))) ∧ Below w.heap.size w w' := by
  obtain ⟨AL, hAL⟩ : ∃ x, (if c = t' then A else Option.map (fun x => x.add (t' * 1)) A) = x := ⟨_, rfl⟩
  have hAL2 := hAL
  simp only [Nat.mul_one] at hAL2
  have H1 := Lib.hid (h.front (k := f') (by omega))
  have H3 := Lib.hid (h.back (k := t') (by omega))
  rw [hAL] at H3
  have H2 := Lib.hid h2
  have hr1 := h.room
  have hr2 := h.most
  have hr3 : c ≤ 9223372036854775807 := by unfold maxLen at hr2; omega
  have hfi : min (f : Int) (n : Int) = (f' : Int) := by omega
  have hti : min (t : Int) (n : Int) = (t' : Int) := by omega
  have a0 : (0 : Int) ≤ (f' : Int) := by omega
  have a1 : (f' : Int) ≤ (c : Int) := by omega
  have a2 : (0 : Int) ≤ (t' : Int) := by omega
  have a3 : (t' : Int) ≤ (n : Int) := by omega
  have a4 : (t' : Int) ≤ (c : Int) := by omega
  have HO1 := Lib.hid (fun u (hu : u ∈ xs.take (f' * 1)) => h1 u (List.mem_of_mem_take hu))
  have HO2 := Lib.hid h3
  have HO3 := Lib.hid (fun u (hu : u ∈ xs.drop (t' * 1)) => h1 u (List.mem_of_mem_drop hu))
  have HF := Lib.hid hf'
  have HT := Lib.hid ht'
  have HFT := Lib.hid hft
  have HQ : Hid (flatH15 [⟨A, f', c, xs.take (f' * 1)⟩, ⟨B, m, cm, ys⟩, ⟨AL, n - t', c - t', xs.drop (t' * 1)⟩] = xs.take (f' * 1) ++ (ys ++ xs.drop (t' * 1))) := Lib.hid (by simp [flatH15])
  have HQ2 : Hid (cntH [⟨A, f', c, xs.take (f' * 1)⟩, ⟨B, m, cm, ys⟩, ⟨AL, n - t', c - t', xs.drop (t' * 1)⟩] = f' + (m + (n - t'))) := Lib.hid (by simp [cntH])
  have HC : Hid (∀ Wd : World, Below w.heap.size w Wd → CellsS F 1 (Wd.alloc (.cells #[.slice A f' c, .slice B m cm, .slice AL (n - t') (c - t')] 25)) (some ⟨Wd.heap.size, 0, none⟩) 3 3 [⟨A, f', c, xs.take (f' * 1)⟩, ⟨B, m, cm, ys⟩, ⟨AL, n - t', c - t', xs.drop (t' * 1)⟩] ∧ Below w.heap.size w (Wd.alloc (.cells #[.slice A f' c, .slice B m cm, .slice AL (n - t') (c - t')] 25))) := Lib.hid (fun Wd hb => by
    have hb2 := hb.alloc hb.size (.cells #[.slice A f' c, .slice B m cm, .slice AL (n - t') (c - t')] 25)
    have hX := Has.made Wd 25 #[.slice A f' c, .slice B m cm, .slice AL (n - t') (c - t')]
    refine ⟨⟨rfl, fun _ => ⟨_, 0, rfl, fun j u hj => by rw [hX.cell, Nat.zero_add]; simpa [Hs.v] using hj⟩, fun y hy => ?_⟩, hb2⟩
    simp only [List.mem_cons, List.mem_nil_iff, or_false] at hy
    rcases hy with rfl | rfl | rfl
    · exact ⟨H1.out.below hb2, HO1.out⟩
    · exact ⟨H2.out.below hb2, HO2.out⟩
    · exact ⟨H3.out.below hb2, HO3.out⟩)
  have HCC := Lib.hid (fun q w1 A (h : CellsS F 1 w1 A 3 3 q) h1 => concatS_any F A 3 3 q w1 h h1 (by decide))
  have hmx : Try.prog.follows .mixedOrders = true := by kernel_rfl
  have HBd : Hid (Below w.heap.size w w.drew) := Lib.hid (Below.refl _ _).drew
  clear h h1 h2 h3 hf' ht' hft hAL
  go_enter Try.func86, Try.ntmps86
  go_wp2
  first | (rename_i K hK; refine wp_held (fun w' : World => True) K hmx ?_ (fun _ _ h => h)) | (rename_i K hK hz; refine wp_held (fun w' : World => True) K hmx ?_ (fun _ _ h => h))
  obtain ⟨Wd, hWd⟩ : ∃ W, w.drew = W := ⟨_, rfl⟩
  rw [hWd] at HBd ⊢
  clear hWd
  obtain ⟨hc, hb⟩ := HC.out _ HBd.out
  have HCd := Lib.hid hc
  have HBW := Lib.hid hb
  clear hc hb HC
  refine wpAnyH_take (i := 0) (v := .slice A n c) (lit rfl) (by kernel_rfl) (by kernel_rfl) (by kernel_rfl) (fun _ _ _ h => h) (Or.inl ⟨by rfl, ?_⟩) trivial ?_
  · rintro w6 _
    go_simp
  simp only [Act.put, List.setIfInBounds_toArray, List.set_cons_zero, List.set_cons_succ]
  refine wpAnyH_take (i := 1) (v := .int .i64 (f : Int)) (lit rfl) (by kernel_rfl) (by kernel_rfl) (by kernel_rfl) (fun _ _ _ h => h) (Or.inl ⟨by rfl, ?_⟩) trivial ?_
  · rintro w6 _
    go_simp
  simp only [Act.put, List.setIfInBounds_toArray, List.set_cons_zero, List.set_cons_succ]
  refine wpAnyH_take (i := 2) (v := .slice A n c) (lit rfl) (by kernel_rfl) (by kernel_rfl) (by kernel_rfl) (fun _ _ _ h => h) (Or.inl ⟨by rfl, ?_⟩) trivial ?_
  · rintro w6 _
    go_simp
  simp only [Act.put, List.setIfInBounds_toArray, List.set_cons_zero, List.set_cons_succ]
  refine wpAnyH_take (i := 3) (v := .int .i64 (n : Int)) (lit rfl) (by kernel_rfl) (by kernel_rfl) (by kernel_rfl) (fun _ _ _ h => h) (Or.inl ⟨by rfl, ?_⟩) trivial ?_
  · rintro w6 _
    go_simp
  simp only [Act.put, List.setIfInBounds_toArray, List.set_cons_zero, List.set_cons_succ]
  refine wpAnyH_take (i := 4) (v := .int .i64 (f' : Int)) (lit rfl) (by kernel_rfl) (by kernel_rfl) (by kernel_rfl) (fun _ _ _ h => h) (Or.inl ⟨by rfl, ?_⟩) trivial ?_
  · rintro w6 _
    go_simp
  simp only [Act.put, List.setIfInBounds_toArray, List.set_cons_zero, List.set_cons_succ]
  refine wpAnyH_take (i := 5) (v := .slice A f' c) (lit rfl) (by kernel_rfl) (by kernel_rfl) (by kernel_rfl) (fun _ _ _ h => h) (Or.inl ⟨by rfl, ?_⟩) trivial ?_
  · rintro w6 _
    go_simp
  simp only [Act.put, List.setIfInBounds_toArray, List.set_cons_zero, List.set_cons_succ]
  refine wpAnyH_take (i := 6) (v := .slice B m cm) (lit rfl) (by kernel_rfl) (by kernel_rfl) (by kernel_rfl) (fun _ _ _ h => h) (Or.inl ⟨by rfl, ?_⟩) trivial ?_
  · rintro w6 _
    go_simp
  simp only [Act.put, List.setIfInBounds_toArray, List.set_cons_zero, List.set_cons_succ]
  refine wpAnyH_take (i := 7) (v := .slice A n c) (lit rfl) (by kernel_rfl) (by kernel_rfl) (by kernel_rfl) (fun _ _ _ h => h) (Or.inl ⟨by rfl, ?_⟩) trivial ?_
  · rintro w6 _
    go_simp
  simp only [Act.put, List.setIfInBounds_toArray, List.set_cons_zero, List.set_cons_succ]
  refine wpAnyH_take (i := 8) (v := .int .i64 (t : Int)) (lit rfl) (by kernel_rfl) (by kernel_rfl) (by kernel_rfl) (fun _ _ _ h => h) (Or.inl ⟨by rfl, ?_⟩) trivial ?_
  · rintro w6 _
    go_simp
  simp only [Act.put, List.setIfInBounds_toArray, List.set_cons_zero, List.set_cons_succ]
  refine wpAnyH_take (i := 9) (v := .slice A n c) (lit rfl) (by kernel_rfl) (by kernel_rfl) (by kernel_rfl) (fun _ _ _ h => h) (Or.inl ⟨by rfl, ?_⟩) trivial ?_
  · rintro w6 _
    go_simp
  simp only [Act.put, List.setIfInBounds_toArray, List.set_cons_zero, List.set_cons_succ]
  refine wpAnyH_take (i := 10) (v := .int .i64 (n : Int)) (lit rfl) (by kernel_rfl) (by kernel_rfl) (by kernel_rfl) (fun _ _ _ h => h) (Or.inl ⟨by rfl, ?_⟩) trivial ?_
  · rintro w6 _
    go_simp
  simp only [Act.put, List.setIfInBounds_toArray, List.set_cons_zero, List.set_cons_succ]
  refine wpAnyH_take (i := 11) (v := .int .i64 (t' : Int)) (lit rfl) (by kernel_rfl) (by kernel_rfl) (by kernel_rfl) (fun _ _ _ h => h) (Or.inl ⟨by rfl, ?_⟩) trivial ?_
  · rintro w6 _
    go_simp
  simp only [Act.put, List.setIfInBounds_toArray, List.set_cons_zero, List.set_cons_succ]
  refine wpAnyH_take (i := 12) (v := .slice AL (n - t') (c - t')) (lit rfl) (by kernel_rfl) (by kernel_rfl) (by kernel_rfl) (fun _ _ _ h => h) (Or.inl ⟨by rfl, ?_⟩) trivial ?_
  · rintro w6 _
    go_simp
  simp only [Act.put, List.setIfInBounds_toArray, List.set_cons_zero, List.set_cons_succ]
  refine wpAnyH_ready (rs := [13]) (by kernel_rfl) (by simp) ?_
  refine AllReadyH.cons (lit rfl) (fun K5 hK5 => ?_) AllReadyH.nil
  refine step_open rfl ?_
  go_simp
  obtain ⟨W, hW⟩ : ∃ W, Wd.alloc (.cells #[.slice A f' c, .slice B m cm, .slice AL (n - t') (c - t')] 25) = W := ⟨_, rfl⟩
  rw [hW] at HCd HBW ⊢
  refine hK5.out _ _ trivial (fun _ => ?_)
  clear hK5 K5
  refine wpAnyH_ready (rs := [14]) (by kernel_rfl) (by simp) ?_
  refine AllReadyH.cons (lit rfl) (fun K5 hK5 => ?_) AllReadyH.nil
  refine step_open rfl ?_
  go_simp
  go_at_call 92
  (with_reducible refine (HCC.out _ _ _ HCd.out (by rw [HQ2.out]; omega)).mono ?_)
  rw [HQ.out, HQ2.out]
  rintro e w3 ⟨v3, rfl, o3, b3⟩
  have O3 := Lib.hid (o3.mono HBW.out.size)
  have B3 := Lib.hid (below_step HBW.out b3)
  clear o3 b3
  go_simp
  refine hK5.out _ _ trivial (fun _ => ?_)
  clear hK5 K5
  refine wpAnyH_take (i := 15) (v := v3) (lit rfl) (by kernel_rfl) (by kernel_rfl) (by kernel_rfl) (fun _ _ _ h => h) (Or.inl ⟨by rfl, ?_⟩) trivial ?_
  · rintro w6 _
    go_simp
  simp only [Act.put, List.setIfInBounds_toArray, List.set_cons_zero, List.set_cons_succ]
  refine wpAnyH_done (by kernel_rfl) ?_ _
  refine hK _ _ ?_
  go_wp2
  go_ret
  exact ⟨_, rfl, O3.out, B3.out⟩
set_option maxRecDepth 100000 in
set_option maxHeartbeats 1000000 in
theorem growV_any (n : Nat) (hn : n ≤ 1000000) (w : World) :
    Calls Try.prog 99 #[.slice none 0 0, .int .i64 n] w fun e w' => ∃ v, e = .returned v ∧ w'.ownsRow w.heap.size 84 2 v 0 [] ∧ Below w.heap.size w w' := by
  obtain ⟨i0, hi, hz0, hz1, hz2⟩ := info_parts v15info
  rcases Nat.eq_zero_or_pos n with rfl | h0
  · go_enter Try.func99, Try.ntmps99
    go_wp2
    go_ret
    exact ⟨_, rfl, ⟨rfl, .inl ⟨rfl, rfl⟩⟩, Below.refl _ _⟩
  · have hA := fun ty => Lib.run_append_nil_zeros (P := Try.prog) w 26 3 ty 84 i0 (.agg #[.string ⟨#[]⟩, .slice none 0 0]) .i64 .i64 Try.underlying26 Try.underlying3 hi hz0 n h0 (by rw [hz1]; decide) (by omega) (by rw [hz2]; omega)
    have hge := grownCap_ge w n 0 84
    have hle := grownCap_le_maxLen w n 0 84 (by unfold maxLen; omega)
    have hO := World.ownsRow_made (base := w.heap.size) (e := 84) (size := 2) w.drew (Builtin.zeroCells (Value.cells (.agg #[.string ⟨#[]⟩, .slice none 0 0])) n ++ Builtin.zeroCells (Value.cells (.agg #[.string ⟨#[]⟩, .slice none 0 0])) (grownCap w n 0 84 - n)) (grownCap w n 0 84) (Nat.le_refl _) hle (by rw [Array.size_append, size_zeroCells, size_zeroCells]; show n * 2 + _ * 2 = _ * 2; rw [← Nat.add_mul]; congr 1; omega)
    have hB : Below w.heap.size w (w.drew.alloc (.cells (Builtin.zeroCells (Value.cells (.agg #[.string ⟨#[]⟩, .slice none 0 0])) n ++ Builtin.zeroCells (Value.cells (.agg #[.string ⟨#[]⟩, .slice none 0 0])) (grownCap w n 0 84 - n)) 84)) := (Below.refl _ w).drew.alloc (Nat.le_refl _) _
    generalize (w.drew.alloc (.cells (Builtin.zeroCells (Value.cells (.agg #[.string ⟨#[]⟩, .slice none 0 0])) n ++ Builtin.zeroCells (Value.cells (.agg #[.string ⟨#[]⟩, .slice none 0 0])) (grownCap w n 0 84 - n)) 84)) = W1 at *
    generalize grownCap w n 0 84 = G at *
    have HA := Lib.hid hA
    have HO := Lib.hid hO
    have HB := Lib.hid hB
    have e0 : w.drew.heap.size = w.heap.size := rfl
    rw [e0] at HO
    unfold maxLen at hle
    clear hA hO hB e0
    go_enter Try.func99, Try.ntmps99
    go_wp2_with (at_builtin; refine Lib.wpList_append_run _ rfl _ _ _ _ rfl _ _ rfl rfl _ _ (HA.out _) ?_)
    go_ret
    exact ⟨_, rfl, HO.out, HB.out⟩
set_option maxHeartbeats 4000000 in
theorem concatV_any (F : Nat → Prop) (A : Option Addr) (n c : Nat) (q : List Hs) (w : World) (h : CellsS F 2 w A n c q) (hl : cntH q ≤ 100000) (hn : n ≤ 100000) :
    Calls Try.prog 93 #[.slice A n c] w fun e w' => ∃ v, e = .returned v ∧ w'.ownsRow w.heap.size 84 2 v (cntH q) (flatH15 q) ∧ Below w.heap.size w w' := by
  have HA := Lib.hid h
  have HL := Lib.hid h.len
  have HG := Lib.hid (fun w => growV_any (cntH q) (by omega) w)
  have HM := Lib.hid (cntH_mono q)
  obtain ⟨i0, hi, hz0, hz1, hz2⟩ := info_parts v15info
  clear h
  go_enter Try.func93, Try.ntmps93
  go_wp2
  go_loop [3, 11] (fun s i => ∃ k : Nat, k ≤ n ∧ i = .int .i64 k ∧ s = .int .i64 (cntH (q.take k) : Int)) (fun _ i => n - (intOf i).toNat)
  case atStart => exact ⟨0, Nat.zero_le _, rfl, rfl⟩
  case round =>
    obtain ⟨k, hk, rfl, rfl⟩ := hrel
    by_cases hlt : k < n
    · have hkl : k < q.length := by rw [← HL.out]; exact hlt
      obtain ⟨g, off, rfl, hc⟩ := HA.out.at hkl
      have h1 := cntH_snoc hkl
      have h2 := HM.out (k + 1)
      rw [h1] at h2
      have HS := Lib.hid h1
      generalize cntH (q.take k) = x at *
      generalize q[k] = y at *
      have hb : x + y.n ≤ 1000000 := by omega
      have hge : ¬ ((x : Int) + (y.n : Int) < 0) := by omega
      clear h1 h2 hkl
      go_wp2
      go_round
      case rel => exact ⟨k + 1, by omega, by go_num, by rw [HS.out]; go_num⟩
      case measure => simp [intOf]; omega
    · obtain rfl : k = n := by omega
      have e : q.take k = q := List.take_of_length_le (by rw [← HL.out]; exact Nat.le_refl _)
      rw [e]
      go_wp2_with (go_at_call 99; (with_reducible refine (HG.out _).mono ?_); rintro r1 w1 ⟨v1, rfl, o1, b1⟩; have O1 := Lib.hid o1; have B1 := Lib.hid b1; clear o1 b1)
      go_loopw [6, 27] (fun v i wr => ∃ m : Nat, m ≤ k ∧ i = .int .i64 m ∧ wr.ownsRow w.heap.size 84 2 v (cntH (q.take m)) (flatH15 (q.take m)) ∧ Below w.heap.size w wr) (fun _ i _ => k - (intOf i).toNat)
      case atStart => exact ⟨0, Nat.zero_le _, rfl, O1.out, B1.out⟩
      case round =>
        obtain ⟨m, hm, rfl, ho, hb⟩ := hrel
        have HO := Lib.hid ho
        have HB := Lib.hid hb
        clear ho hb
        by_cases hlt2 : m < k
        · have hkl : m < q.length := by rw [← HL.out]; exact hlt2
          have hC := HA.out.below HB.out
          obtain ⟨g, off, rfl, hc⟩ := hC.at hkl
          have hy := hC.hdr hkl
          have h1 := flatH15_snoc hkl
          have h3 := cntH_snoc hkl
          have h2 := HM.out (m + 1)
          rw [h3] at h2
          have HS := Lib.hid h1
          have HS3 := Lib.hid h3
          generalize flatH15 (q.take m) = x at *
          generalize cntH (q.take m) = X at *
          generalize q[m] = y at *
          have HY := Lib.hid hy
          clear hy h1 h3 hkl hC
          go_wp2_with (at_builtin; refine wpList_append_rw rfl _ _ 26 rfl w.heap.size 84 i0 _ 2 40 Try.underlying26 hi hz0 hz1 hz2 rfl (by decide) _ X _ rfl HO.out y.a y.n y.c y.l rfl HY.out.1 HY.out.2 (by unfold maxLen; omega) (by omega) HB.out.size ?_; intro v4 w4 h7 h8; have O4 := Lib.hid h7; have B4 := Lib.hid (HB.out.grown h8 HB.out.size (fun k hk => (HO.out.lt k hk).1)); clear h7 h8)
          go_roundw
          case rel => exact ⟨m + 1, by omega, by go_num, by rw [HS.out, HS3.out]; exact O4.out, B4.out⟩
          case measure => simp [intOf]; omega
        · obtain rfl : m = k := by omega
          have e : q.take m = q := List.take_of_length_le (by rw [← HL.out]; exact Nat.le_refl _)
          rw [e] at HO
          obtain ⟨w3, hw3⟩ : ∃ w3 : World, w3 = wr := ⟨_, rfl⟩
          subst hw3
          obtain ⟨A2, c2, rfl, _⟩ := RwF.own HO.out
          go_wp2
          go_ret
          exact ⟨_, rfl, HO.out, HB.out⟩
set_option maxRecDepth 100000 in
set_option maxHeartbeats 4000000 in
theorem spliceV_any (F : Nat → Prop) (A B : Option Addr) (n c m cm f t f' t' : Nat) (xs ys : List Value) (w : World) (h : RwF F w A n c 2 xs) (h1 : ∀ u ∈ xs, u.oneCell' = true) (h2 : RwF F w B m cm 2 ys) (h3 : ∀ u ∈ ys, u.oneCell' = true) (hn : n ≤ 1000) (hm : m ≤ 1000) (ht : t ≤ 9223372036854775807) (hf : f ≤ 9223372036854775807) (hf' : f' = min f n) (ht' : t' = min t n) (hft : f' ≤ t') :
    Calls Try.prog 87 #[.slice A n c, .int .i64 (f : Int), .int .i64 (t : Int), .slice B m cm] w fun e w' => ∃ v, e = .returned v ∧ w'.ownsRow w.heap.size 84 2 v (f' + (m + (n - t'))) (xs.take (f' * 2) ++ (ys ++ xs.drop (t' * 2))) ∧ Below w.heap.size w w' := by
  obtain ⟨AL, hAL⟩ : ∃ x, (if c = t' then A else Option.map (fun x => x.add (t' * 2)) A) = x := ⟨_, rfl⟩
  have hAL2 := hAL
  skip
  have H1 := Lib.hid (h.front (k := f') (by omega))
  have H3 := Lib.hid (h.back (k := t') (by omega))
  rw [hAL] at H3
  have H2 := Lib.hid h2
  have hr1 := h.room
  have hr2 := h.most
  have hr3 : c ≤ 9223372036854775807 := by unfold maxLen at hr2; omega
  have hfi : min (f : Int) (n : Int) = (f' : Int) := by omega
  have hti : min (t : Int) (n : Int) = (t' : Int) := by omega
  have a0 : (0 : Int) ≤ (f' : Int) := by omega
  have a1 : (f' : Int) ≤ (c : Int) := by omega
  have a2 : (0 : Int) ≤ (t' : Int) := by omega
  have a3 : (t' : Int) ≤ (n : Int) := by omega
  have a4 : (t' : Int) ≤ (c : Int) := by omega
  have HO1 := Lib.hid (fun u (hu : u ∈ xs.take (f' * 2)) => h1 u (List.mem_of_mem_take hu))
  have HO2 := Lib.hid h3
  have HO3 := Lib.hid (fun u (hu : u ∈ xs.drop (t' * 2)) => h1 u (List.mem_of_mem_drop hu))
  have HF := Lib.hid hf'
  have HT := Lib.hid ht'
  have HFT := Lib.hid hft
  have HQ : Hid (flatH15 [⟨A, f', c, xs.take (f' * 2)⟩, ⟨B, m, cm, ys⟩, ⟨AL, n - t', c - t', xs.drop (t' * 2)⟩] = xs.take (f' * 2) ++ (ys ++ xs.drop (t' * 2))) := Lib.hid (by simp [flatH15])
  have HQ2 : Hid (cntH [⟨A, f', c, xs.take (f' * 2)⟩, ⟨B, m, cm, ys⟩, ⟨AL, n - t', c - t', xs.drop (t' * 2)⟩] = f' + (m + (n - t'))) := Lib.hid (by simp [cntH])
  have HC : Hid (∀ Wd : World, Below w.heap.size w Wd → CellsS F 2 (Wd.alloc (.cells #[.slice A f' c, .slice B m cm, .slice AL (n - t') (c - t')] 26)) (some ⟨Wd.heap.size, 0, none⟩) 3 3 [⟨A, f', c, xs.take (f' * 2)⟩, ⟨B, m, cm, ys⟩, ⟨AL, n - t', c - t', xs.drop (t' * 2)⟩] ∧ Below w.heap.size w (Wd.alloc (.cells #[.slice A f' c, .slice B m cm, .slice AL (n - t') (c - t')] 26))) := Lib.hid (fun Wd hb => by
    have hb2 := hb.alloc hb.size (.cells #[.slice A f' c, .slice B m cm, .slice AL (n - t') (c - t')] 26)
    have hX := Has.made Wd 26 #[.slice A f' c, .slice B m cm, .slice AL (n - t') (c - t')]
    refine ⟨⟨rfl, fun _ => ⟨_, 0, rfl, fun j u hj => by rw [hX.cell, Nat.zero_add]; simpa [Hs.v] using hj⟩, fun y hy => ?_⟩, hb2⟩
    simp only [List.mem_cons, List.mem_nil_iff, or_false] at hy
    rcases hy with rfl | rfl | rfl
    · exact ⟨H1.out.below hb2, HO1.out⟩
    · exact ⟨H2.out.below hb2, HO2.out⟩
    · exact ⟨H3.out.below hb2, HO3.out⟩)
  have HCC := Lib.hid (fun q w1 A (h : CellsS F 2 w1 A 3 3 q) h1 => concatV_any F A 3 3 q w1 h h1 (by decide))
  have hmx : Try.prog.follows .mixedOrders = true := by kernel_rfl
  have HBd : Hid (Below w.heap.size w w.drew) := Lib.hid (Below.refl _ _).drew
  clear h h1 h2 h3 hf' ht' hft hAL
  go_enter Try.func87, Try.ntmps87
  go_wp2
  first | (rename_i K hK; refine wp_held (fun w' : World => True) K hmx ?_ (fun _ _ h => h)) | (rename_i K hK hz; refine wp_held (fun w' : World => True) K hmx ?_ (fun _ _ h => h))
  obtain ⟨Wd, hWd⟩ : ∃ W, w.drew = W := ⟨_, rfl⟩
  rw [hWd] at HBd ⊢
  clear hWd
  obtain ⟨hc, hb⟩ := HC.out _ HBd.out
  have HCd := Lib.hid hc
  have HBW := Lib.hid hb
  clear hc hb HC
  refine wpAnyH_take (i := 0) (v := .slice A n c) (lit rfl) (by kernel_rfl) (by kernel_rfl) (by kernel_rfl) (fun _ _ _ h => h) (Or.inl ⟨by rfl, ?_⟩) trivial ?_
  · rintro w6 _
    go_simp
  simp only [Act.put, List.setIfInBounds_toArray, List.set_cons_zero, List.set_cons_succ]
  refine wpAnyH_take (i := 1) (v := .int .i64 (f : Int)) (lit rfl) (by kernel_rfl) (by kernel_rfl) (by kernel_rfl) (fun _ _ _ h => h) (Or.inl ⟨by rfl, ?_⟩) trivial ?_
  · rintro w6 _
    go_simp
  simp only [Act.put, List.setIfInBounds_toArray, List.set_cons_zero, List.set_cons_succ]
  refine wpAnyH_take (i := 2) (v := .slice A n c) (lit rfl) (by kernel_rfl) (by kernel_rfl) (by kernel_rfl) (fun _ _ _ h => h) (Or.inl ⟨by rfl, ?_⟩) trivial ?_
  · rintro w6 _
    go_simp
  simp only [Act.put, List.setIfInBounds_toArray, List.set_cons_zero, List.set_cons_succ]
  refine wpAnyH_take (i := 3) (v := .int .i64 (n : Int)) (lit rfl) (by kernel_rfl) (by kernel_rfl) (by kernel_rfl) (fun _ _ _ h => h) (Or.inl ⟨by rfl, ?_⟩) trivial ?_
  · rintro w6 _
    go_simp
  simp only [Act.put, List.setIfInBounds_toArray, List.set_cons_zero, List.set_cons_succ]
  refine wpAnyH_take (i := 4) (v := .int .i64 (f' : Int)) (lit rfl) (by kernel_rfl) (by kernel_rfl) (by kernel_rfl) (fun _ _ _ h => h) (Or.inl ⟨by rfl, ?_⟩) trivial ?_
  · rintro w6 _
    go_simp
  simp only [Act.put, List.setIfInBounds_toArray, List.set_cons_zero, List.set_cons_succ]
  refine wpAnyH_take (i := 5) (v := .slice A f' c) (lit rfl) (by kernel_rfl) (by kernel_rfl) (by kernel_rfl) (fun _ _ _ h => h) (Or.inl ⟨by rfl, ?_⟩) trivial ?_
  · rintro w6 _
    go_simp
  simp only [Act.put, List.setIfInBounds_toArray, List.set_cons_zero, List.set_cons_succ]
  refine wpAnyH_take (i := 6) (v := .slice B m cm) (lit rfl) (by kernel_rfl) (by kernel_rfl) (by kernel_rfl) (fun _ _ _ h => h) (Or.inl ⟨by rfl, ?_⟩) trivial ?_
  · rintro w6 _
    go_simp
  simp only [Act.put, List.setIfInBounds_toArray, List.set_cons_zero, List.set_cons_succ]
  refine wpAnyH_take (i := 7) (v := .slice A n c) (lit rfl) (by kernel_rfl) (by kernel_rfl) (by kernel_rfl) (fun _ _ _ h => h) (Or.inl ⟨by rfl, ?_⟩) trivial ?_
  · rintro w6 _
    go_simp
  simp only [Act.put, List.setIfInBounds_toArray, List.set_cons_zero, List.set_cons_succ]
  refine wpAnyH_take (i := 8) (v := .int .i64 (t : Int)) (lit rfl) (by kernel_rfl) (by kernel_rfl) (by kernel_rfl) (fun _ _ _ h => h) (Or.inl ⟨by rfl, ?_⟩) trivial ?_
  · rintro w6 _
    go_simp
  simp only [Act.put, List.setIfInBounds_toArray, List.set_cons_zero, List.set_cons_succ]
  refine wpAnyH_take (i := 9) (v := .slice A n c) (lit rfl) (by kernel_rfl) (by kernel_rfl) (by kernel_rfl) (fun _ _ _ h => h) (Or.inl ⟨by rfl, ?_⟩) trivial ?_
  · rintro w6 _
    go_simp
  simp only [Act.put, List.setIfInBounds_toArray, List.set_cons_zero, List.set_cons_succ]
  refine wpAnyH_take (i := 10) (v := .int .i64 (n : Int)) (lit rfl) (by kernel_rfl) (by kernel_rfl) (by kernel_rfl) (fun _ _ _ h => h) (Or.inl ⟨by rfl, ?_⟩) trivial ?_
  · rintro w6 _
    go_simp
  simp only [Act.put, List.setIfInBounds_toArray, List.set_cons_zero, List.set_cons_succ]
  refine wpAnyH_take (i := 11) (v := .int .i64 (t' : Int)) (lit rfl) (by kernel_rfl) (by kernel_rfl) (by kernel_rfl) (fun _ _ _ h => h) (Or.inl ⟨by rfl, ?_⟩) trivial ?_
  · rintro w6 _
    go_simp
  simp only [Act.put, List.setIfInBounds_toArray, List.set_cons_zero, List.set_cons_succ]
  refine wpAnyH_take (i := 12) (v := .slice AL (n - t') (c - t')) (lit rfl) (by kernel_rfl) (by kernel_rfl) (by kernel_rfl) (fun _ _ _ h => h) (Or.inl ⟨by rfl, ?_⟩) trivial ?_
  · rintro w6 _
    go_simp
  simp only [Act.put, List.setIfInBounds_toArray, List.set_cons_zero, List.set_cons_succ]
  refine wpAnyH_ready (rs := [13]) (by kernel_rfl) (by simp) ?_
  refine AllReadyH.cons (lit rfl) (fun K5 hK5 => ?_) AllReadyH.nil
  refine step_open rfl ?_
  go_simp
  obtain ⟨W, hW⟩ : ∃ W, Wd.alloc (.cells #[.slice A f' c, .slice B m cm, .slice AL (n - t') (c - t')] 26) = W := ⟨_, rfl⟩
  rw [hW] at HCd HBW ⊢
  refine hK5.out _ _ trivial (fun _ => ?_)
  clear hK5 K5
  refine wpAnyH_ready (rs := [14]) (by kernel_rfl) (by simp) ?_
  refine AllReadyH.cons (lit rfl) (fun K5 hK5 => ?_) AllReadyH.nil
  refine step_open rfl ?_
  go_simp
  go_at_call 93
  (with_reducible refine (HCC.out _ _ _ HCd.out (by rw [HQ2.out]; omega)).mono ?_)
  rw [HQ.out, HQ2.out]
  rintro e w3 ⟨v3, rfl, o3, b3⟩
  have O3 := Lib.hid (o3.mono HBW.out.size)
  have B3 := Lib.hid (below_step HBW.out b3)
  clear o3 b3
  go_simp
  refine hK5.out _ _ trivial (fun _ => ?_)
  clear hK5 K5
  refine wpAnyH_take (i := 15) (v := v3) (lit rfl) (by kernel_rfl) (by kernel_rfl) (by kernel_rfl) (fun _ _ _ h => h) (Or.inl ⟨by rfl, ?_⟩) trivial ?_
  · rintro w6 _
    go_simp
  simp only [Act.put, List.setIfInBounds_toArray, List.set_cons_zero, List.set_cons_succ]
  refine wpAnyH_done (by kernel_rfl) ?_ _
  refine hK _ _ ?_
  go_wp2
  go_ret
  exact ⟨_, rfl, O3.out, B3.out⟩
set_option maxRecDepth 100000 in
set_option maxHeartbeats 1000000 in
theorem growN_any (n : Nat) (hn : n ≤ 1000000) (w : World) :
    Calls Try.prog 100 #[.slice none 0 0, .int .i64 n] w fun e w' => ∃ v, e = .returned v ∧ w'.ownsRow w.heap.size 29 5 v 0 [] ∧ Below w.heap.size w w' := by
  obtain ⟨i0, hi, hz0, hz1, hz2⟩ := info_parts n15info
  rcases Nat.eq_zero_or_pos n with rfl | h0
  · go_enter Try.func100, Try.ntmps100
    go_wp2
    go_ret
    exact ⟨_, rfl, ⟨rfl, .inl ⟨rfl, rfl⟩⟩, Below.refl _ _⟩
  · have hA := fun ty => Lib.run_append_nil_zeros (P := Try.prog) w 27 3 ty 29 i0 (.agg #[.int .i64 0, .bool false, .slice none 0 0, .slice none 0 0, .slice none 0 0]) .i64 .i64 Try.underlying27 Try.underlying3 hi hz0 n h0 (by rw [hz1]; decide) (by omega) (by rw [hz2]; omega)
    have hge := grownCap_ge w n 0 29
    have hle := grownCap_le_maxLen w n 0 29 (by unfold maxLen; omega)
    have hO := World.ownsRow_made (base := w.heap.size) (e := 29) (size := 5) w.drew (Builtin.zeroCells (Value.cells (.agg #[.int .i64 0, .bool false, .slice none 0 0, .slice none 0 0, .slice none 0 0])) n ++ Builtin.zeroCells (Value.cells (.agg #[.int .i64 0, .bool false, .slice none 0 0, .slice none 0 0, .slice none 0 0])) (grownCap w n 0 29 - n)) (grownCap w n 0 29) (Nat.le_refl _) hle (by rw [Array.size_append, size_zeroCells, size_zeroCells]; show n * 5 + _ * 5 = _ * 5; rw [← Nat.add_mul]; congr 1; omega)
    have hB : Below w.heap.size w (w.drew.alloc (.cells (Builtin.zeroCells (Value.cells (.agg #[.int .i64 0, .bool false, .slice none 0 0, .slice none 0 0, .slice none 0 0])) n ++ Builtin.zeroCells (Value.cells (.agg #[.int .i64 0, .bool false, .slice none 0 0, .slice none 0 0, .slice none 0 0])) (grownCap w n 0 29 - n)) 29)) := (Below.refl _ w).drew.alloc (Nat.le_refl _) _
    generalize (w.drew.alloc (.cells (Builtin.zeroCells (Value.cells (.agg #[.int .i64 0, .bool false, .slice none 0 0, .slice none 0 0, .slice none 0 0])) n ++ Builtin.zeroCells (Value.cells (.agg #[.int .i64 0, .bool false, .slice none 0 0, .slice none 0 0, .slice none 0 0])) (grownCap w n 0 29 - n)) 29)) = W1 at *
    generalize grownCap w n 0 29 = G at *
    have HA := Lib.hid hA
    have HO := Lib.hid hO
    have HB := Lib.hid hB
    have e0 : w.drew.heap.size = w.heap.size := rfl
    rw [e0] at HO
    unfold maxLen at hle
    clear hA hO hB e0
    go_enter Try.func100, Try.ntmps100
    go_wp2_with (at_builtin; refine Lib.wpList_append_run _ rfl _ _ _ _ rfl _ _ rfl rfl _ _ (HA.out _) ?_)
    go_ret
    exact ⟨_, rfl, HO.out, HB.out⟩
set_option maxHeartbeats 4000000 in
theorem concatN_any (F : Nat → Prop) (A : Option Addr) (n c : Nat) (q : List Hs) (w : World) (h : CellsS F 5 w A n c q) (hl : cntH q ≤ 100000) (hn : n ≤ 100000) :
    Calls Try.prog 94 #[.slice A n c] w fun e w' => ∃ v, e = .returned v ∧ w'.ownsRow w.heap.size 29 5 v (cntH q) (flatH15 q) ∧ Below w.heap.size w w' := by
  have HA := Lib.hid h
  have HL := Lib.hid h.len
  have HG := Lib.hid (fun w => growN_any (cntH q) (by omega) w)
  have HM := Lib.hid (cntH_mono q)
  obtain ⟨i0, hi, hz0, hz1, hz2⟩ := info_parts n15info
  clear h
  go_enter Try.func94, Try.ntmps94
  go_wp2
  go_loop [3, 11] (fun s i => ∃ k : Nat, k ≤ n ∧ i = .int .i64 k ∧ s = .int .i64 (cntH (q.take k) : Int)) (fun _ i => n - (intOf i).toNat)
  case atStart => exact ⟨0, Nat.zero_le _, rfl, rfl⟩
  case round =>
    obtain ⟨k, hk, rfl, rfl⟩ := hrel
    by_cases hlt : k < n
    · have hkl : k < q.length := by rw [← HL.out]; exact hlt
      obtain ⟨g, off, rfl, hc⟩ := HA.out.at hkl
      have h1 := cntH_snoc hkl
      have h2 := HM.out (k + 1)
      rw [h1] at h2
      have HS := Lib.hid h1
      generalize cntH (q.take k) = x at *
      generalize q[k] = y at *
      have hb : x + y.n ≤ 1000000 := by omega
      have hge : ¬ ((x : Int) + (y.n : Int) < 0) := by omega
      clear h1 h2 hkl
      go_wp2
      go_round
      case rel => exact ⟨k + 1, by omega, by go_num, by rw [HS.out]; go_num⟩
      case measure => simp [intOf]; omega
    · obtain rfl : k = n := by omega
      have e : q.take k = q := List.take_of_length_le (by rw [← HL.out]; exact Nat.le_refl _)
      rw [e]
      go_wp2_with (go_at_call 100; (with_reducible refine (HG.out _).mono ?_); rintro r1 w1 ⟨v1, rfl, o1, b1⟩; have O1 := Lib.hid o1; have B1 := Lib.hid b1; clear o1 b1)
      go_loopw [6, 27] (fun v i wr => ∃ m : Nat, m ≤ k ∧ i = .int .i64 m ∧ wr.ownsRow w.heap.size 29 5 v (cntH (q.take m)) (flatH15 (q.take m)) ∧ Below w.heap.size w wr) (fun _ i _ => k - (intOf i).toNat)
      case atStart => exact ⟨0, Nat.zero_le _, rfl, O1.out, B1.out⟩
      case round =>
        obtain ⟨m, hm, rfl, ho, hb⟩ := hrel
        have HO := Lib.hid ho
        have HB := Lib.hid hb
        clear ho hb
        by_cases hlt2 : m < k
        · have hkl : m < q.length := by rw [← HL.out]; exact hlt2
          have hC := HA.out.below HB.out
          obtain ⟨g, off, rfl, hc⟩ := hC.at hkl
          have hy := hC.hdr hkl
          have h1 := flatH15_snoc hkl
          have h3 := cntH_snoc hkl
          have h2 := HM.out (m + 1)
          rw [h3] at h2
          have HS := Lib.hid h1
          have HS3 := Lib.hid h3
          generalize flatH15 (q.take m) = x at *
          generalize cntH (q.take m) = X at *
          generalize q[m] = y at *
          have HY := Lib.hid hy
          clear hy h1 h3 hkl hC
          go_wp2_with (at_builtin; refine wpList_append_rw rfl _ _ 27 rfl w.heap.size 29 i0 _ 5 88 Try.underlying27 hi hz0 hz1 hz2 rfl (by decide) _ X _ rfl HO.out y.a y.n y.c y.l rfl HY.out.1 HY.out.2 (by unfold maxLen; omega) (by omega) HB.out.size ?_; intro v4 w4 h7 h8; have O4 := Lib.hid h7; have B4 := Lib.hid (HB.out.grown h8 HB.out.size (fun k hk => (HO.out.lt k hk).1)); clear h7 h8)
          go_roundw
          case rel => exact ⟨m + 1, by omega, by go_num, by rw [HS.out, HS3.out]; exact O4.out, B4.out⟩
          case measure => simp [intOf]; omega
        · obtain rfl : m = k := by omega
          have e : q.take m = q := List.take_of_length_le (by rw [← HL.out]; exact Nat.le_refl _)
          rw [e] at HO
          obtain ⟨w3, hw3⟩ : ∃ w3 : World, w3 = wr := ⟨_, rfl⟩
          subst hw3
          obtain ⟨A2, c2, rfl, _⟩ := RwF.own HO.out
          go_wp2
          go_ret
          exact ⟨_, rfl, HO.out, HB.out⟩
set_option maxRecDepth 100000 in
set_option maxHeartbeats 4000000 in
theorem spliceN_any (F : Nat → Prop) (A B : Option Addr) (n c m cm f t f' t' : Nat) (xs ys : List Value) (w : World) (h : RwF F w A n c 5 xs) (h1 : ∀ u ∈ xs, u.oneCell' = true) (h2 : RwF F w B m cm 5 ys) (h3 : ∀ u ∈ ys, u.oneCell' = true) (hn : n ≤ 1000) (hm : m ≤ 1000) (ht : t ≤ 9223372036854775807) (hf : f ≤ 9223372036854775807) (hf' : f' = min f n) (ht' : t' = min t n) (hft : f' ≤ t') :
    Calls Try.prog 88 #[.slice A n c, .int .i64 (f : Int), .int .i64 (t : Int), .slice B m cm] w fun e w' => ∃ v, e = .returned v ∧ w'.ownsRow w.heap.size 29 5 v (f' + (m + (n - t'))) (xs.take (f' * 5) ++ (ys ++ xs.drop (t' * 5))) ∧ Below w.heap.size w w' := by
  obtain ⟨AL, hAL⟩ : ∃ x, (if c = t' then A else Option.map (fun x => x.add (t' * 5)) A) = x := ⟨_, rfl⟩
  have hAL2 := hAL
  skip
  have H1 := Lib.hid (h.front (k := f') (by omega))
  have H3 := Lib.hid (h.back (k := t') (by omega))
  rw [hAL] at H3
  have H2 := Lib.hid h2
  have hr1 := h.room
  have hr2 := h.most
  have hr3 : c ≤ 9223372036854775807 := by unfold maxLen at hr2; omega
  have hfi : min (f : Int) (n : Int) = (f' : Int) := by omega
  have hti : min (t : Int) (n : Int) = (t' : Int) := by omega
  have a0 : (0 : Int) ≤ (f' : Int) := by omega
  have a1 : (f' : Int) ≤ (c : Int) := by omega
  have a2 : (0 : Int) ≤ (t' : Int) := by omega
  have a3 : (t' : Int) ≤ (n : Int) := by omega
  have a4 : (t' : Int) ≤ (c : Int) := by omega
  have HO1 := Lib.hid (fun u (hu : u ∈ xs.take (f' * 5)) => h1 u (List.mem_of_mem_take hu))
  have HO2 := Lib.hid h3
  have HO3 := Lib.hid (fun u (hu : u ∈ xs.drop (t' * 5)) => h1 u (List.mem_of_mem_drop hu))
  have HF := Lib.hid hf'
  have HT := Lib.hid ht'
  have HFT := Lib.hid hft
  have HQ : Hid (flatH15 [⟨A, f', c, xs.take (f' * 5)⟩, ⟨B, m, cm, ys⟩, ⟨AL, n - t', c - t', xs.drop (t' * 5)⟩] = xs.take (f' * 5) ++ (ys ++ xs.drop (t' * 5))) := Lib.hid (by simp [flatH15])
  have HQ2 : Hid (cntH [⟨A, f', c, xs.take (f' * 5)⟩, ⟨B, m, cm, ys⟩, ⟨AL, n - t', c - t', xs.drop (t' * 5)⟩] = f' + (m + (n - t'))) := Lib.hid (by simp [cntH])
  have HC : Hid (∀ Wd : World, Below w.heap.size w Wd → CellsS F 5 (Wd.alloc (.cells #[.slice A f' c, .slice B m cm, .slice AL (n - t') (c - t')] 27)) (some ⟨Wd.heap.size, 0, none⟩) 3 3 [⟨A, f', c, xs.take (f' * 5)⟩, ⟨B, m, cm, ys⟩, ⟨AL, n - t', c - t', xs.drop (t' * 5)⟩] ∧ Below w.heap.size w (Wd.alloc (.cells #[.slice A f' c, .slice B m cm, .slice AL (n - t') (c - t')] 27))) := Lib.hid (fun Wd hb => by
    have hb2 := hb.alloc hb.size (.cells #[.slice A f' c, .slice B m cm, .slice AL (n - t') (c - t')] 27)
    have hX := Has.made Wd 27 #[.slice A f' c, .slice B m cm, .slice AL (n - t') (c - t')]
    refine ⟨⟨rfl, fun _ => ⟨_, 0, rfl, fun j u hj => by rw [hX.cell, Nat.zero_add]; simpa [Hs.v] using hj⟩, fun y hy => ?_⟩, hb2⟩
    simp only [List.mem_cons, List.mem_nil_iff, or_false] at hy
    rcases hy with rfl | rfl | rfl
    · exact ⟨H1.out.below hb2, HO1.out⟩
    · exact ⟨H2.out.below hb2, HO2.out⟩
    · exact ⟨H3.out.below hb2, HO3.out⟩)
  have HCC := Lib.hid (fun q w1 A (h : CellsS F 5 w1 A 3 3 q) h1 => concatN_any F A 3 3 q w1 h h1 (by decide))
  have hmx : Try.prog.follows .mixedOrders = true := by kernel_rfl
  have HBd : Hid (Below w.heap.size w w.drew) := Lib.hid (Below.refl _ _).drew
  clear h h1 h2 h3 hf' ht' hft hAL
  go_enter Try.func88, Try.ntmps88
  go_wp2
  first | (rename_i K hK; refine wp_held (fun w' : World => True) K hmx ?_ (fun _ _ h => h)) | (rename_i K hK hz; refine wp_held (fun w' : World => True) K hmx ?_ (fun _ _ h => h))
  obtain ⟨Wd, hWd⟩ : ∃ W, w.drew = W := ⟨_, rfl⟩
  rw [hWd] at HBd ⊢
  clear hWd
  obtain ⟨hc, hb⟩ := HC.out _ HBd.out
  have HCd := Lib.hid hc
  have HBW := Lib.hid hb
  clear hc hb HC
  refine wpAnyH_take (i := 0) (v := .slice A n c) (lit rfl) (by kernel_rfl) (by kernel_rfl) (by kernel_rfl) (fun _ _ _ h => h) (Or.inl ⟨by rfl, ?_⟩) trivial ?_
  · rintro w6 _
    go_simp
  simp only [Act.put, List.setIfInBounds_toArray, List.set_cons_zero, List.set_cons_succ]
  refine wpAnyH_take (i := 1) (v := .int .i64 (f : Int)) (lit rfl) (by kernel_rfl) (by kernel_rfl) (by kernel_rfl) (fun _ _ _ h => h) (Or.inl ⟨by rfl, ?_⟩) trivial ?_
  · rintro w6 _
    go_simp
  simp only [Act.put, List.setIfInBounds_toArray, List.set_cons_zero, List.set_cons_succ]
  refine wpAnyH_take (i := 2) (v := .slice A n c) (lit rfl) (by kernel_rfl) (by kernel_rfl) (by kernel_rfl) (fun _ _ _ h => h) (Or.inl ⟨by rfl, ?_⟩) trivial ?_
  · rintro w6 _
    go_simp
  simp only [Act.put, List.setIfInBounds_toArray, List.set_cons_zero, List.set_cons_succ]
  refine wpAnyH_take (i := 3) (v := .int .i64 (n : Int)) (lit rfl) (by kernel_rfl) (by kernel_rfl) (by kernel_rfl) (fun _ _ _ h => h) (Or.inl ⟨by rfl, ?_⟩) trivial ?_
  · rintro w6 _
    go_simp
  simp only [Act.put, List.setIfInBounds_toArray, List.set_cons_zero, List.set_cons_succ]
  refine wpAnyH_take (i := 4) (v := .int .i64 (f' : Int)) (lit rfl) (by kernel_rfl) (by kernel_rfl) (by kernel_rfl) (fun _ _ _ h => h) (Or.inl ⟨by rfl, ?_⟩) trivial ?_
  · rintro w6 _
    go_simp
  simp only [Act.put, List.setIfInBounds_toArray, List.set_cons_zero, List.set_cons_succ]
  refine wpAnyH_take (i := 5) (v := .slice A f' c) (lit rfl) (by kernel_rfl) (by kernel_rfl) (by kernel_rfl) (fun _ _ _ h => h) (Or.inl ⟨by rfl, ?_⟩) trivial ?_
  · rintro w6 _
    go_simp
  simp only [Act.put, List.setIfInBounds_toArray, List.set_cons_zero, List.set_cons_succ]
  refine wpAnyH_take (i := 6) (v := .slice B m cm) (lit rfl) (by kernel_rfl) (by kernel_rfl) (by kernel_rfl) (fun _ _ _ h => h) (Or.inl ⟨by rfl, ?_⟩) trivial ?_
  · rintro w6 _
    go_simp
  simp only [Act.put, List.setIfInBounds_toArray, List.set_cons_zero, List.set_cons_succ]
  refine wpAnyH_take (i := 7) (v := .slice A n c) (lit rfl) (by kernel_rfl) (by kernel_rfl) (by kernel_rfl) (fun _ _ _ h => h) (Or.inl ⟨by rfl, ?_⟩) trivial ?_
  · rintro w6 _
    go_simp
  simp only [Act.put, List.setIfInBounds_toArray, List.set_cons_zero, List.set_cons_succ]
  refine wpAnyH_take (i := 8) (v := .int .i64 (t : Int)) (lit rfl) (by kernel_rfl) (by kernel_rfl) (by kernel_rfl) (fun _ _ _ h => h) (Or.inl ⟨by rfl, ?_⟩) trivial ?_
  · rintro w6 _
    go_simp
  simp only [Act.put, List.setIfInBounds_toArray, List.set_cons_zero, List.set_cons_succ]
  refine wpAnyH_take (i := 9) (v := .slice A n c) (lit rfl) (by kernel_rfl) (by kernel_rfl) (by kernel_rfl) (fun _ _ _ h => h) (Or.inl ⟨by rfl, ?_⟩) trivial ?_
  · rintro w6 _
    go_simp
  simp only [Act.put, List.setIfInBounds_toArray, List.set_cons_zero, List.set_cons_succ]
  refine wpAnyH_take (i := 10) (v := .int .i64 (n : Int)) (lit rfl) (by kernel_rfl) (by kernel_rfl) (by kernel_rfl) (fun _ _ _ h => h) (Or.inl ⟨by rfl, ?_⟩) trivial ?_
  · rintro w6 _
    go_simp
  simp only [Act.put, List.setIfInBounds_toArray, List.set_cons_zero, List.set_cons_succ]
  refine wpAnyH_take (i := 11) (v := .int .i64 (t' : Int)) (lit rfl) (by kernel_rfl) (by kernel_rfl) (by kernel_rfl) (fun _ _ _ h => h) (Or.inl ⟨by rfl, ?_⟩) trivial ?_
  · rintro w6 _
    go_simp
  simp only [Act.put, List.setIfInBounds_toArray, List.set_cons_zero, List.set_cons_succ]
  refine wpAnyH_take (i := 12) (v := .slice AL (n - t') (c - t')) (lit rfl) (by kernel_rfl) (by kernel_rfl) (by kernel_rfl) (fun _ _ _ h => h) (Or.inl ⟨by rfl, ?_⟩) trivial ?_
  · rintro w6 _
    go_simp
  simp only [Act.put, List.setIfInBounds_toArray, List.set_cons_zero, List.set_cons_succ]
  refine wpAnyH_ready (rs := [13]) (by kernel_rfl) (by simp) ?_
  refine AllReadyH.cons (lit rfl) (fun K5 hK5 => ?_) AllReadyH.nil
  refine step_open rfl ?_
  go_simp
  obtain ⟨W, hW⟩ : ∃ W, Wd.alloc (.cells #[.slice A f' c, .slice B m cm, .slice AL (n - t') (c - t')] 27) = W := ⟨_, rfl⟩
  rw [hW] at HCd HBW ⊢
  refine hK5.out _ _ trivial (fun _ => ?_)
  clear hK5 K5
  refine wpAnyH_ready (rs := [14]) (by kernel_rfl) (by simp) ?_
  refine AllReadyH.cons (lit rfl) (fun K5 hK5 => ?_) AllReadyH.nil
  refine step_open rfl ?_
  go_simp
  go_at_call 94
  (with_reducible refine (HCC.out _ _ _ HCd.out (by rw [HQ2.out]; omega)).mono ?_)
  rw [HQ.out, HQ2.out]
  rintro e w3 ⟨v3, rfl, o3, b3⟩
  have O3 := Lib.hid (o3.mono HBW.out.size)
  have B3 := Lib.hid (below_step HBW.out b3)
  clear o3 b3
  go_simp
  refine hK5.out _ _ trivial (fun _ => ?_)
  clear hK5 K5
  refine wpAnyH_take (i := 15) (v := v3) (lit rfl) (by kernel_rfl) (by kernel_rfl) (by kernel_rfl) (fun _ _ _ h => h) (Or.inl ⟨by rfl, ?_⟩) trivial ?_
  · rintro w6 _
    go_simp
  simp only [Act.put, List.setIfInBounds_toArray, List.set_cons_zero, List.set_cons_succ]
  refine wpAnyH_done (by kernel_rfl) ?_ _
  refine hK _ _ ?_
  go_wp2
  go_ret
  exact ⟨_, rfl, O3.out, B3.out⟩
end Go.Proofs.Ytpaklhifnndeoaa
