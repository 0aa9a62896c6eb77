import Derived.Test.YtoelojlabmconaaJ08
import Derived.Deep.AppendLies
import Derived.Lib.AppendZeros
/- Of a claim's texts, joined: Pof Ppa. No statement but in the last. -/
section
namespace Go.Proofs.Ytoelojlabmconaa
open Go.RowKit
set_option linter.unusedVariables false

theorem Has.kept13 {w w' : World} {t e : TypeId} {B b s n : Nat} {cs : Array Value} {v : Value} {ys : List Value} (h : Has w B t cs) (ho : w.ownsRow b e s v n ys) (hne : t ≠ e) (hg : w.grownBy w' v.ownBlock) : Has w' B t cs :=
  h.grown hg (fun hq => by
    rcases ho.2 with ⟨rfl, _⟩ | ⟨g', cap, cur, rfl, _, hc, _⟩
    · cases hq
    · obtain rfl : B = g' := by injection hq
      exact h.apart (show Has w B e cur from hc) hne rfl)
theorem own_below13 {w w' : World} {b : Nat} {e : TypeId} {s n : Nat} {v : Value} {xs : List Value} (h : w.ownsRow b e s v n xs) (hb : Below w.heap.size w w') : w'.ownsRow b e s v n xs :=
  h.kept (row := none) ⟨hb.os, hb.tape, hb.output, hb.size, fun k hk _ => hb.block k hk⟩ (by
    rcases v.ownBlock with _ | g
    · exact .inl rfl
    · exact .inr (by simp))
theorem own_cell13 {w : World} {b B s n : Nat} {e t : TypeId} {v : Value} {xs : List Value} {cs : Array Value} (h : w.ownsRow b e s v n xs) (hB : Has w B t cs) (hne : t ≠ e) (i : Nat) (u : Value) : (w.setCell ⟨B, i, none⟩ u).ownsRow b e s v n xs := by
  refine h.kept (row := some B) (only_store (World.grownBy.refl w (some B)) i u) ?_
  rcases h.2 with ⟨rfl, _⟩ | ⟨g, cap, cur, rfl, _, hc, _⟩
  · exact .inl rfl
  · refine .inr (fun hq => ?_)
    obtain rfl : g = B := by injection hq
    exact hB.apart (show Has w g e cur from hc) hne rfl
theorem only_cell13 {w : World} {B g j : Nat} (h : g ≠ B) (i : Nat) (v : Value) : (w.setCell ⟨B, i, none⟩ v).cell? ⟨g, j, none⟩ = w.cell? ⟨g, j, none⟩ := by
  have := Below.heap_setCell w ⟨B, i, none⟩ v g h
  simp [World.cell?, this]
theorem own_by13 {w : World} {B : Nat} {t : TypeId} {v : Value} {s n : Nat} {xs : List Value} (h : w.ownsRow B t s v n xs) : ∃ A c, v = .slice A n c ∧ n ≤ c ∧ c ≤ maxLen := by
  rcases h.2 with ⟨rfl, rfl⟩ | ⟨g, cap, cur, rfl, _, _, h1, h2, _⟩
  · exact ⟨none, 0, rfl, Nat.le_refl _, Nat.zero_le _⟩
  · exact ⟨_, cap, rfl, h1, h2⟩
abbrev Sl13 := Option Addr × Nat × Nat
def sl0 : Sl13 := (none, 0, 0)
structure WaitsN (w : World) (B : Option Addr) (m d : Nat) (l : List (Nat × List Int)) (ss : List Sl13) : Prop where
  len : m = l.length
  same : ss.length = l.length
  reads : 0 < m → ∃ b off, B = some ⟨b, off, none⟩ ∧ b < w.heap.size ∧ ∀ i, i < m → w.cell? ⟨b, off + i * 2, none⟩ = some (.int .u64 ((l.getD i w00).1 : Int)) ∧ w.cell? ⟨b, off + i * 2 + 1, none⟩ = some (.slice (ss.getD i sl0).1 (ss.getD i sl0).2.1 (ss.getD i sl0).2.2)
  each : ∀ i, i < m → RowZ w (ss.getD i sl0).1 (ss.getD i sl0).2.1 (ss.getD i sl0).2.2 (l.getD i w00).2
theorem getS_at {ss : List Sl13} {i : Nat} (h : i < ss.length) : ss.getD i sl0 = ss[i] := by rw [List.getD_eq_getElem?_getD, List.getElem?_eq_getElem h]; rfl
theorem WaitsA.named {w : World} {B : Option Addr} {m d : Nat} {l : List (Nat × List Int)} (h : WaitsA w B m d l) : ∃ ss, WaitsN w B m d l ss := by
  rcases Nat.eq_zero_or_pos m with h0 | h0
  · refine ⟨l.map (fun _ => sl0), h.len, by simp, fun h1 => by omega, fun i hi => by omega⟩
  · obtain ⟨b, off, e, hlt, hc⟩ := h.reads h0
    have hex : ∀ i : Fin m, ∃ s : Sl13, w.cell? ⟨b, off + i.1 * 2 + 1, none⟩ = some (.slice s.1 s.2.1 s.2.2) ∧ RowZ w s.1 s.2.1 s.2.2 (l.getD i.1 w00).2 := fun i => by
      have hi : i.1 < l.length := by have := i.2; have := h.len; omega
      obtain ⟨_, A, n, c, h1, h2⟩ := hc i.1 l[i.1] (List.getElem?_eq_getElem hi)
      exact ⟨(A, n, c), h1, by rw [getW_at (List.getElem?_eq_getElem hi)]; exact h2⟩
    refine ⟨List.ofFn (fun i => (hex i).choose), h.len, by rw [List.length_ofFn]; exact h.len, fun _ => ⟨b, off, e, hlt, fun i hi => ?_⟩, fun i hi => ?_⟩
    · have hi2 : i < l.length := by have := h.len; omega
      have e1 : (List.ofFn (fun i => (hex i).choose)).getD i sl0 = (hex ⟨i, hi⟩).choose := by rw [getS_at (by rw [List.length_ofFn]; exact hi), List.getElem_ofFn]
      rw [e1]
      exact ⟨by rw [getW_at (List.getElem?_eq_getElem hi2)]; exact (hc i l[i] (List.getElem?_eq_getElem hi2)).1, (hex ⟨i, hi⟩).choose_spec.1⟩
    · have e1 : (List.ofFn (fun i => (hex i).choose)).getD i sl0 = (hex ⟨i, hi⟩).choose := by rw [getS_at (by rw [List.length_ofFn]; exact hi), List.getElem_ofFn]
      rw [e1]
      exact (hex ⟨i, hi⟩).choose_spec.2
def cellsW (l : List (Nat × List Int)) (ss : List Sl13) : Nat → List Value
  | 0 => []
  | k + 1 => cellsW l ss k ++ [.int .u64 ((l.getD k w00).1 : Int), .slice (ss.getD k sl0).1 (ss.getD k sl0).2.1 (ss.getD k sl0).2.2]
theorem cellsW_len (l : List (Nat × List Int)) (ss : List Sl13) : ∀ k, (cellsW l ss k).length = k * 2
  | 0 => rfl
  | k + 1 => by
    unfold cellsW
    rw [List.length_append, cellsW_len l ss k]
    simp
    omega
theorem cellsW_at (l : List (Nat × List Int)) (ss : List Sl13) : ∀ (k i : Nat), i < k → (cellsW l ss k)[i * 2]? = some (.int .u64 ((l.getD i w00).1 : Int)) ∧ (cellsW l ss k)[i * 2 + 1]? = some (.slice (ss.getD i sl0).1 (ss.getD i sl0).2.1 (ss.getD i sl0).2.2)
  | 0, i, h => by omega
  | k + 1, i, h => by
    unfold cellsW
    by_cases e : i = k
    · subst e
      rw [List.getElem?_append_right (by rw [cellsW_len]; omega), List.getElem?_append_right (by rw [cellsW_len]; omega), cellsW_len, Nat.sub_self, show i * 2 + 1 - i * 2 = 1 by omega]
      exact ⟨rfl, rfl⟩
    · rw [List.getElem?_append_left (by rw [cellsW_len]; omega), List.getElem?_append_left (by rw [cellsW_len]; omega)]
      exact cellsW_at l ss k i (by omega)
theorem w_info13 : (Try.prog.info? 57).map (fun i => (i.zero, i.size, i.bytes)) = some (some (.agg #[.int .u64 0, .slice none 0 0]), 2, 32) := by kernel_rfl
theorem WaitsA.of_own {w w0 : World} {Bb m : Nat} {v : Value} {l : List (Nat × List Int)} {ss : List Sl13} {B : Option Addr} {d : Nat} (h : w.ownsRow Bb 57 2 v m (cellsW l ss m)) (hn : WaitsN w0 B m d l ss) (hb : Below w0.heap.size w0 w) (hbig : ∀ x ∈ l, x.1 < 2 ^ 64) : ∃ A c, v = .slice A m c ∧ WaitsA w A m c l := by
  have hc2 := h.2
  rcases hc2 with ⟨rfl, h0⟩ | ⟨g, cap, cur, rfl, hBg, hcur, h1, h2, h3, h4⟩
  · subst h0
    exact ⟨none, 0, rfl, hn.len, fun h => absurd h (Nat.lt_irrefl 0), Nat.le_refl _, Nat.zero_le _, hbig⟩
  · refine ⟨_, cap, rfl, hn.len, fun h0 => ⟨g, 0, rfl, (Array.getElem?_eq_some_iff.1 hcur).1, fun i x hx => ?_⟩, h1, h2, hbig⟩
    have him : i < m := by rw [hn.len]; exact (List.getElem?_eq_some_iff.1 hx).1
    obtain ⟨c1, c2⟩ := cellsW_at l ss m i him
    have e := getW_at hx
    have hR := hn.each i him
    rw [e] at c1 hR
    rw [Nat.zero_add, h.cellAt (i * 2) (by omega), h.cellAt (i * 2 + 1) (by omega)]
    exact ⟨c1, _, _, _, c2, hR.below hb⟩
set_option maxRecDepth 100000 in
set_option maxHeartbeats 8000000 in
theorem plain13_any (p : Pd) (h : Int) {w : World} {A B : Option Addr} {n c m d : Nat} (hp : PoolA w A n c B m d p) (hm : m ≤ 1000) :
    Calls Try.prog 9 #[.agg #[.int .i64 h, .slice A n c, .slice B m d]] w fun e w' => ∃ A' d', e = .returned (.agg #[.int .i64 h, .slice A n c, .slice A' m d']) ∧ PoolA w' A n c A' m d' p ∧ Below w.heap.size w w' := by
  have hmx : Try.prog.follows .mixedOrders = true := by kernel_rfl
  obtain ⟨j0, hj, jz0, jz1, jz2⟩ := info_parts w_info13
  obtain ⟨ss, hss⟩ := hp.wait.named
  have HNM := Lib.hid hss
  have HFR := Lib.hid hp.free
  have HBG := Lib.hid hp.wait.big
  have HM := Lib.hid hss.len
  obtain ⟨W, hW⟩ : ∃ W, ((w.alloc (.cells #[.int .i64 h, .slice A n c, .slice B m d] 25)).alloc (.cells #[.int .i64 0, .slice none 0 0, .slice none 0 0] 30)) = W := ⟨_, rfl⟩
  have BW : Below w.heap.size w W := hW ▸ ((Below.refl _ w).alloc (Nat.le_refl _) _).alloc (by simp) _
  have hX : Has W w.heap.size 25 #[.int .i64 h, .slice A n c, .slice B m d] := hW ▸ (Has.made w _ _).alloc _
  have hR : Has W (w.heap.size + 1) 30 #[.int .i64 0, .slice none 0 0, .slice none 0 0] := by
    have := Has.made (w.alloc (.cells #[.int .i64 h, .slice A n c, .slice B m d] 25)) 30 #[.int .i64 0, .slice none 0 0, .slice none 0 0]
    rw [hW] at this
    simpa using this
  have hs : W.heap.size = w.heap.size + 1 + 1 := by rw [← hW]; simp
  have e0 := hX.cell 0
  have e1 := hX.cell 1
  have HX := Lib.hid hX
  have HR := Lib.hid hR
  have HB := Lib.hid BW
  have HS := Lib.hid hs
  clear hp hss BW hX hR hs
  go_enter Try.func9, Try.ntmps9
  go_wp2
  try rw [hW]
  go_loopw [4] (fun i wr => ∃ k : Nat, k ≤ m ∧ i = .int .i64 k ∧ ∃ v, Has wr W.heap.size 30 #[.int .i64 h, .slice A n c, v] ∧ Has wr (w.heap.size + 1) 30 #[.int .i64 0, .slice none 0 0, .slice none 0 0] ∧ Has wr w.heap.size 25 #[.int .i64 h, .slice A n c, .slice B m d] ∧ wr.ownsRow w.heap.size 57 2 v k (cellsW p.wait ss k) ∧ Below w.heap.size w wr) (fun i _ => m - (intOf i).toNat)
  case atStart =>
    refine ⟨0, Nat.zero_le _, rfl, .slice none 0 0, ?_, HR.out.alloc _, HX.out.alloc _, ⟨rfl, .inl ⟨rfl, rfl⟩⟩, HB.out.alloc HB.out.size _⟩
    exact Has.made W 30 #[.int .i64 h, .slice A n c, .slice none 0 0]
  case round =>
    obtain ⟨k, hk, rfl, v, hq1, hq2, hq3, hq4, hq5⟩ := hrel
    obtain ⟨Av, cv, rfl, hcv1, hcv2⟩ := own_by13 hq4
    have Q1 := Lib.hid hq1
    have Q2 := Lib.hid hq2
    have Q3 := Lib.hid hq3
    have Q4 := Lib.hid hq4
    have Q5 := Lib.hid hq5
    have f0 := hq3.cell 0
    have f1 := hq3.cell 1
    have f2 := hq3.cell 2
    by_cases hlt : k < m
    · obtain ⟨b, off, rfl, hbl, hel⟩ := HNM.out.reads (by omega)
      obtain ⟨c0', c1'⟩ := hel k hlt
      have NX : Hid (cellsW p.wait ss (k + 1) = cellsW p.wait ss k ++ [.int .u64 ((p.wait.getD k w00).1 : Int), .slice (ss.getD k sl0).1 (ss.getD k sl0).2.1 (ss.getD k sl0).2.2]) := Lib.hid rfl
      have i0 : (0 : Int) ≤ (k : Int) := by omega
      have i1 : (k : Int) < (m : Int) := by omega
      generalize (p.wait.getD k w00).1 = t at c0' NX
      generalize ss.getD k sl0 = s at c1' NX
      obtain ⟨A2, n2, c2⟩ := s
      simp only at c1' NX
      have c0 := cell_below (w := w) c0' hq5
      have c1 := cell_below (w := w) c1' hq5
      have HBL := Lib.hid hbl
      have hC0 : (fun w' : World => w'.cell? ⟨W.heap.size, 2, none⟩ = some (.slice Av k cv)) wr.drew := hq1.cell 2
      have hS0 : (fun w' : World => Has w' w.heap.size 25 #[.int .i64 h, .slice A n c, .slice (some ⟨b, off, none⟩) m d] ∧ w'.cell? ⟨b, off + k * 2, none⟩ = some (.int .u64 (t : Int)) ∧ w'.cell? ⟨b, off + k * 2 + 1, none⟩ = some (.slice A2 n2 c2)) wr.drew := ⟨hq3, c0, c1⟩
      clear hq1 hq2 hq3 hq4 hq5 hcv1 hcv2 hel c0' c1' hbl
      go_wp2
      rename_i K hK
      refine wp_heldJQ (fun w' : World => w'.cell? ⟨W.heap.size, 2, none⟩ = some (.slice Av k cv)) (fun w' : World => Has w' w.heap.size 25 #[.int .i64 h, .slice A n c, .slice (some ⟨b, off, none⟩) m d] ∧ w'.cell? ⟨b, off + k * 2, none⟩ = some (.int .u64 (t : Int)) ∧ w'.cell? ⟨b, off + k * 2 + 1, none⟩ = some (.slice A2 n2 c2)) 16 hmx ?_
      refine wpAnyJ_takeS (i := 0) (v := .pointer (some ⟨W.heap.size, 2, none⟩)) rfl (by kernel_rfl) (by kernel_rfl) (by kernel_rfl) (by decide) (fun _ _ _ h => h) (Or.inl ⟨by rfl, ?_⟩) (.inr hC0) hS0 ?_
      · rintro w6 ⟨s1, s2, s3⟩
        go_simp
      simp only [Act.put, List.setIfInBounds_toArray, List.set_cons_zero, List.set_cons_succ, List.getElem_toArray, List.getElem_cons_zero]
      refine wpAnyJ_take (i := 1) (v := .slice Av k cv) rfl (by kernel_rfl) (by kernel_rfl) (by kernel_rfl) (by kernel_rfl) (by decide) (by kernel_rfl) (fun _ _ _ h => h) (Or.inl ⟨by rfl, ?_⟩) hC0 hS0 ?_
      · rintro w6 c9
        go_simp
      simp only [Act.put, List.setIfInBounds_toArray, List.set_cons_zero, List.set_cons_succ, List.getElem_toArray, List.getElem_cons_zero, List.getElem_cons_succ]
      refine wpAnyJ_takeS (i := 2) (v := .pointer (some ⟨w.heap.size, 2, none⟩)) rfl (by kernel_rfl) (by kernel_rfl) (by kernel_rfl) (by decide) (fun _ _ _ h => h) (Or.inl ⟨by rfl, ?_⟩) (.inr hC0) hS0 ?_
      · rintro w6 ⟨s1, s2, s3⟩
        go_simp
      simp only [Act.put, List.setIfInBounds_toArray, List.set_cons_zero, List.set_cons_succ, List.getElem_toArray, List.getElem_cons_zero, List.getElem_cons_succ]
      refine wpAnyJ_takeS (i := 3) (v := .slice (some ⟨b, off, none⟩) m d) rfl (by kernel_rfl) (by kernel_rfl) (by kernel_rfl) (by decide) (fun _ _ _ h => h) (Or.inl ⟨by rfl, ?_⟩) (.inr hC0) hS0 ?_
      · rintro w6 ⟨s1, s2, s3⟩
        have d1 := s1.cell 2
        go_simp
      simp only [Act.put, List.setIfInBounds_toArray, List.set_cons_zero, List.set_cons_succ, List.getElem_toArray, List.getElem_cons_zero, List.getElem_cons_succ]
      refine wpAnyJ_takeS (i := 4) (v := .int .i64 (k : Int)) rfl (by kernel_rfl) (by kernel_rfl) (by kernel_rfl) (by decide) (fun _ _ _ h => h) (Or.inl ⟨by rfl, ?_⟩) (.inr hC0) hS0 ?_
      · rintro w6 ⟨s1, s2, s3⟩
        go_simp
      simp only [Act.put, List.setIfInBounds_toArray, List.set_cons_zero, List.set_cons_succ, List.getElem_toArray, List.getElem_cons_zero, List.getElem_cons_succ]
      refine wpAnyJ_takeS (i := 5) (v := .pointer (some ⟨b, off + k * 2, none⟩)) rfl (by kernel_rfl) (by kernel_rfl) (by kernel_rfl) (by decide) (fun _ _ _ h => h) (Or.inl ⟨by rfl, ?_⟩) (.inr hC0) hS0 ?_
      · rintro w6 ⟨s1, s2, s3⟩
        go_simp
      simp only [Act.put, List.setIfInBounds_toArray, List.set_cons_zero, List.set_cons_succ, List.getElem_toArray, List.getElem_cons_zero, List.getElem_cons_succ]
      refine wpAnyJ_takeS (i := 6) (v := .pointer (some ⟨b, off + k * 2, none⟩)) rfl (by kernel_rfl) (by kernel_rfl) (by kernel_rfl) (by decide) (fun _ _ _ h => h) (Or.inl ⟨by rfl, ?_⟩) (.inr hC0) hS0 ?_
      · rintro w6 ⟨s1, s2, s3⟩
        go_simp
      simp only [Act.put, List.setIfInBounds_toArray, List.set_cons_zero, List.set_cons_succ, List.getElem_toArray, List.getElem_cons_zero, List.getElem_cons_succ]
      refine wpAnyJ_takeS (i := 7) (v := .int .u64 (t : Int)) rfl (by kernel_rfl) (by kernel_rfl) (by kernel_rfl) (by decide) (fun _ _ _ h => h) (Or.inl ⟨by rfl, ?_⟩) (.inr hC0) hS0 ?_
      · rintro w6 ⟨s1, s2, s3⟩
        go_simp
      simp only [Act.put, List.setIfInBounds_toArray, List.set_cons_zero, List.set_cons_succ, List.getElem_toArray, List.getElem_cons_zero, List.getElem_cons_succ]
      refine wpAnyJ_takeS (i := 8) (v := .pointer (some ⟨w.heap.size, 2, none⟩)) rfl (by kernel_rfl) (by kernel_rfl) (by kernel_rfl) (by decide) (fun _ _ _ h => h) (Or.inl ⟨by rfl, ?_⟩) (.inr hC0) hS0 ?_
      · rintro w6 ⟨s1, s2, s3⟩
        go_simp
      simp only [Act.put, List.setIfInBounds_toArray, List.set_cons_zero, List.set_cons_succ, List.getElem_toArray, List.getElem_cons_zero, List.getElem_cons_succ]
      refine wpAnyJ_takeS (i := 9) (v := .slice (some ⟨b, off, none⟩) m d) rfl (by kernel_rfl) (by kernel_rfl) (by kernel_rfl) (by decide) (fun _ _ _ h => h) (Or.inl ⟨by rfl, ?_⟩) (.inr hC0) hS0 ?_
      · rintro w6 ⟨s1, s2, s3⟩
        have d1 := s1.cell 2
        go_simp
      simp only [Act.put, List.setIfInBounds_toArray, List.set_cons_zero, List.set_cons_succ, List.getElem_toArray, List.getElem_cons_zero, List.getElem_cons_succ]
      refine wpAnyJ_takeS (i := 10) (v := .int .i64 (k : Int)) rfl (by kernel_rfl) (by kernel_rfl) (by kernel_rfl) (by decide) (fun _ _ _ h => h) (Or.inl ⟨by rfl, ?_⟩) (.inr hC0) hS0 ?_
      · rintro w6 ⟨s1, s2, s3⟩
        go_simp
      simp only [Act.put, List.setIfInBounds_toArray, List.set_cons_zero, List.set_cons_succ, List.getElem_toArray, List.getElem_cons_zero, List.getElem_cons_succ]
      refine wpAnyJ_takeS (i := 11) (v := .pointer (some ⟨b, off + k * 2, none⟩)) rfl (by kernel_rfl) (by kernel_rfl) (by kernel_rfl) (by decide) (fun _ _ _ h => h) (Or.inl ⟨by rfl, ?_⟩) (.inr hC0) hS0 ?_
      · rintro w6 ⟨s1, s2, s3⟩
        go_simp
      simp only [Act.put, List.setIfInBounds_toArray, List.set_cons_zero, List.set_cons_succ, List.getElem_toArray, List.getElem_cons_zero, List.getElem_cons_succ]
      refine wpAnyJ_takeS (i := 12) (v := .pointer (some ⟨b, off + k * 2 + 1, none⟩)) rfl (by kernel_rfl) (by kernel_rfl) (by kernel_rfl) (by decide) (fun _ _ _ h => h) (Or.inl ⟨by rfl, ?_⟩) (.inr hC0) hS0 ?_
      · rintro w6 ⟨s1, s2, s3⟩
        go_simp
      simp only [Act.put, List.setIfInBounds_toArray, List.set_cons_zero, List.set_cons_succ, List.getElem_toArray, List.getElem_cons_zero, List.getElem_cons_succ]
      refine wpAnyJ_takeS (i := 13) (v := .slice A2 n2 c2) rfl (by kernel_rfl) (by kernel_rfl) (by kernel_rfl) (by decide) (fun _ _ _ h => h) (Or.inl ⟨by rfl, ?_⟩) (.inr hC0) hS0 ?_
      · rintro w6 ⟨s1, s2, s3⟩
        go_simp
      simp only [Act.put, List.setIfInBounds_toArray, List.set_cons_zero, List.set_cons_succ, List.getElem_toArray, List.getElem_cons_zero, List.getElem_cons_succ]
      refine wpAnyJ_one (i := 14) (by kernel_rfl) rfl (fun K5 hK5 => ?_)
      go_simp
      refine hK5.out _ _ (.inr hC0) hS0 ?_
      clear hK5 K5
      refine wpAnyJ_one (i := 15) (by kernel_rfl) rfl (fun K5 hK5 => ?_)
      go_simp
      obtain ⟨w4, hw4⟩ : ∃ w4, (wr.alloc (.cells #[.int .u64 (t : Int), .slice A2 n2 c2] 57)).drew = w4 := ⟨_, rfl⟩
      try rw [hw4]
      have B4 : Below wr.heap.size wr w4 := hw4 ▸ ((Below.refl wr.heap.size wr).alloc (Nat.le_refl _) _).drew
      have hC4 : (fun w' : World => w'.cell? ⟨W.heap.size, 2, none⟩ = some (.slice Av k cv)) w4 := (Q1.out.below B4 Q1.out.lt).cell 2
      have hS4 : (fun w' : World => Has w' w.heap.size 25 #[.int .i64 h, .slice A n c, .slice (some ⟨b, off, none⟩) m d] ∧ w'.cell? ⟨b, off + k * 2, none⟩ = some (.int .u64 (t : Int)) ∧ w'.cell? ⟨b, off + k * 2 + 1, none⟩ = some (.slice A2 n2 c2)) w4 := ⟨Q3.out.below B4 Q3.out.lt, cell_below (w := wr) c0 B4, cell_below (w := wr) c1 B4⟩
      have O4 := own_below13 Q4.out B4
      have LS : ∀ j y, ([.int .u64 (t : Int), .slice A2 n2 c2] : List Value)[j]? = some y → w4.cell? ((⟨wr.heap.size, 0, none⟩ : Addr).add j) = some y := by
          subst hw4
          intro j y hjy
          rw [add_plain]
          have := (Has.made wr 57 #[.int .u64 (t : Int), .slice A2 n2 c2]).cell (0 + j)
          rw [Nat.zero_add] at this ⊢
          exact this.trans (by simpa using hjy)
      have BT4 : Below w.heap.size w w4 := below_step Q5.out B4
      refine hK5.out _ _ (.inr hC4) hS4 ?_
      clear hK5 K5
      refine wpAnyJ_one (i := 16) (by kernel_rfl) rfl (fun K5 hK5 => ?_)
      refine step_append_lies _ rfl _ _ 28 rfl w.heap.size 57 j0 _ 2 32 Try.underlying28 hj jz0 jz1 jz2 rfl (by decide) _ k _ rfl O4 ⟨wr.heap.size, 0, none⟩ 1 1 [.int .u64 (t : Int), .slice A2 n2 c2] rfl rfl LS (by intro u hu; simp at hu; rcases hu with rfl | rfl <;> rfl) (by decide) (by unfold maxLen; omega) (by omega) BT4.size _ rfl ?_
      intro gn capn w5 h7 h8 h9 h10
      have XN := (Q1.out.below B4 Q1.out.lt).kept13 O4 (by decide) h8
      have XB := Lib.hid ((Q2.out.below B4 Q2.out.lt).kept13 O4 (by decide) h8)
      have B5 := Lib.hid (below_own BT4 h8 O4 BT4.size)
      have O5 := Lib.hid h7
      have cn := XN.cell 2
      have fn := XN.free 2
      have XN := Lib.hid XN
      have hS5 : (fun w' : World => Has w' w.heap.size 25 #[.int .i64 h, .slice A n c, .slice (some ⟨b, off, none⟩) m d] ∧ w'.cell? ⟨b, off + k * 2, none⟩ = some (.int .u64 (t : Int)) ∧ w'.cell? ⟨b, off + k * 2 + 1, none⟩ = some (.slice A2 n2 c2)) w5 := ⟨hS4.1.kept13 O4 (by decide) h8, by rw [B5.out.cell HBL.out, ← BT4.cell HBL.out]; exact hS4.2.1, by rw [B5.out.cell HBL.out, ← BT4.cell HBL.out]; exact hS4.2.2⟩
      clear h7 h8 h9 h10
      refine hK5.out _ _ (.inl (by kernel_rfl)) hS5 ?_
      clear hK5 K5
      simp only [Act.put, List.setIfInBounds_toArray, List.set_cons_zero, List.set_cons_succ, List.getElem_toArray, List.getElem_cons_zero, List.getElem_cons_succ]
      refine wpAnyJ_takeS (i := 17) (v := .pointer (some ⟨W.heap.size, 2, none⟩)) rfl (by kernel_rfl) (by kernel_rfl) (by kernel_rfl) (by decide) (fun _ _ _ h => h) (Or.inl ⟨by rfl, ?_⟩) (.inl (by kernel_rfl)) hS5 ?_
      · rintro w6 ⟨s1, s2, s3⟩
        go_simp
      simp only [Act.put, List.setIfInBounds_toArray, List.set_cons_zero, List.set_cons_succ, List.getElem_toArray, List.getElem_cons_zero, List.getElem_cons_succ]
      refine wpAnyJ_one (i := 18) (by kernel_rfl) rfl (fun K5 hK5 => ?_)
      go_simp
      have hS6 : (fun w' : World => Has w' w.heap.size 25 #[.int .i64 h, .slice A n c, .slice (some ⟨b, off, none⟩) m d] ∧ w'.cell? ⟨b, off + k * 2, none⟩ = some (.int .u64 (t : Int)) ∧ w'.cell? ⟨b, off + k * 2 + 1, none⟩ = some (.slice A2 n2 c2)) (w5.setCell ⟨W.heap.size, 2, none⟩ (.slice (some ⟨gn, 0, none⟩) (k + 1) capn)) := ⟨hS5.1.away (p := ⟨W.heap.size, 2, none⟩) (by show w.heap.size ≠ W.heap.size; have := HS.out; omega) _, (only_cell13 (by have := HS.out; have := HBL.out; omega) 2 _).trans hS5.2.1, (only_cell13 (by have := HS.out; have := HBL.out; omega) 2 _).trans hS5.2.2⟩
      refine hK5.out _ _ (.inl (by kernel_rfl)) hS6 ?_
      clear hK5 K5
      refine wpAnyJ_done (by kernel_rfl) ?_ _
      refine hK _ _ ?_
      go_wp2
      go_roundw
      case rel =>
        refine ⟨k + 1, by omega, by go_num, _, XN.out.store 2 _, XB.out.away (p := ⟨W.heap.size, 2, none⟩) (by show w.heap.size + 1 ≠ W.heap.size; have := HS.out; omega) _, hS6.1, ?_, B5.out.setCell (p := ⟨W.heap.size, 2, none⟩) (by show w.heap.size ≤ W.heap.size; have := HS.out; omega) _⟩
        rw [NX.out]
        exact own_cell13 O5.out XN.out (by decide) 2 _
      case measure => simp [intOf]; omega
    · obtain rfl : k = m := by omega
      have hltI : ¬ (k : Int) < (k : Int) := by omega
      have d0 := hq1.cell 0
      have d1 := hq1.cell 1
      have d2 := hq1.cell 2
      have g0 := hq2.free 0
      have g1 := hq2.free 1
      have g2 := hq2.free 2
      have h0 := hq2.cell 0
      have h1 := hq2.cell 1
      have h2 := hq2.cell 2
      clear hq1 hq2 hq3 hq4 hq5
      obtain ⟨w3, hw3⟩ : ∃ w3 : World, w3 = wr := ⟨_, rfl⟩
      subst hw3
      go_wp2
      have k1 := ((Q2.out.store 0 (.int .i64 h)).store 1 (.slice A n c)).store 2 (.slice Av k cv)
      have q0 := k1.cell 0
      have q1 := k1.cell 1
      have q2 := k1.cell 2
      have ho := own_cell13 (own_cell13 (own_cell13 Q4.out Q2.out (by decide) 0 (.int .i64 h)) (Q2.out.store 0 (.int .i64 h)) (by decide) 1 (.slice A n c)) ((Q2.out.store 0 (.int .i64 h)).store 1 (.slice A n c)) (by decide) 2 (.slice Av k cv)
      have hB9 := ((Q5.out.setCell (p := ⟨w.heap.size + 1, 0, none⟩) (by show w.heap.size ≤ w.heap.size + 1; omega) (.int .i64 h)).setCell (p := ⟨w.heap.size + 1, 1, none⟩) (by show w.heap.size ≤ w.heap.size + 1; omega) (.slice A n c)).setCell (p := ⟨w.heap.size + 1, 2, none⟩) (by show w.heap.size ≤ w.heap.size + 1; omega) (.slice Av k cv)
      obtain ⟨A2, c2, hv2, hN⟩ := WaitsA.of_own ho HNM.out hB9 HBG.out
      injection hv2 with e1 e2 e3
      subst e1 e3
      refine ⟨rfl, .agg #[.int .i64 h, .slice A n c, .slice Av k cv], ?_, Av, cv, rfl, ⟨HFR.out.below hB9, hN⟩, hB9⟩
      simp at q0 q1 q2
      simp [results, Try.f9, go_sem, q0, q1, q2]

end Go.Proofs.Ytoelojlabmconaa
end

section
namespace Go.Proofs.Ytoelojlabmconaa
open Go.RowKit
set_option linter.unusedVariables false

theorem eqnil13_yes (n c : Nat) (w : World) : (binOp .eql 22 (.slice none n c) (.slice none 0 0)).run Try.prog w = .ok (.bool true) w := Lib.run_eql_slice_nil w 22 3 none n c 0 0 Try.underlying22
theorem eqnil13_no (a : Addr) (n c : Nat) (w : World) : (binOp .eql 22 (.slice (some a) n c) (.slice none 0 0)).run Try.prog w = .ok (.bool false) w := Lib.run_eql_slice_nil w 22 3 (some a) n c 0 0 Try.underlying22
theorem own_newZ13 (w : World) : (w.alloc (.cells #[] 3)).ownsRow w.heap.size 3 1 (.slice (some ⟨w.heap.size, 0, none⟩) 0 0) 0 ([] : List Value) := World.ownsRow_made w #[] 0 (Nat.le_refl _) (by decide) rfl
def OwnZ (l : List Int) (w : World) (e : Ending) (w' : World) : Prop := ∃ A c, e = .returned (.slice A l.length c) ∧ w'.ownsRow w.heap.size 3 1 (.slice A l.length c) l.length (l.map (Value.int .i64)) ∧ Below w.heap.size w w'
theorem RowZ.of_own {w : World} {B n c : Nat} {A : Option Addr} {l : List Int} (h : w.ownsRow B 3 1 (.slice A n c) n (l.map (Value.int .i64))) : RowZ w A n c l := by
  obtain ⟨A2, c2, e, hr⟩ := RowZ.own h
  injection e with e1 e2 e3
  subst e1 e3
  exact hr
set_option maxRecDepth 100000 in
theorem cloneZ13_any (A : Option Addr) (n c : Nat) (l : List Int) (w : World) (h : RowZ w A n c l) (hn : n ≤ 1000000) : Calls Try.prog 28 #[.slice A n c] w (OwnZ l w) := by
  rcases A with _ | a
  · have hc0 := h.nil rfl
    have hn0 : n = 0 := by have := h.room; omega
    have h0 : l = [] := List.length_eq_zero_iff.1 (by have := h.len; omega)
    clear h
    subst h0
    subst hn0
    subst hc0
    have hq := eqnil13_yes 0 0
    go_enter Try.func28, Try.ntmps28
    go_wp2
    go_ret
    exact ⟨none, 0, rfl, World.ownsRow_nil _ _ _ _, Below.refl _ _⟩
  · have HL := Lib.hid h.len
    have HC := Lib.hid (h.below ((Below.refl w.heap.size w).alloc (Nat.le_refl _) (.cells #[] 3)))
    clear h
    obtain ⟨i0, hi, hz0, hz1, hz2⟩ := info_parts int_info13
    have hq := eqnil13_no a n c
    go_enter Try.func28, Try.ntmps28
    go_wp2_with (at_builtin; (refine wpList_append_zs rfl _ _ 22 rfl w.heap.size 3 i0 Try.underlying22 hi hz0 hz1 hz2 _ 0 [] rfl (own_newZ13 w) _ n _ l rfl HL.out HC.out.nil HC.out.reads (by omega) (by simp) ?_; intro v3 w3 h7 h8; rw [Nat.zero_add, List.nil_append] at h7; have O3 := Lib.hid h7; have B3 := Lib.hid (below_own ((Below.refl w.heap.size w).alloc (Nat.le_refl _) (.cells #[] 3)) h8 (own_newZ13 w) (by simp)); clear h7 h8))
    go_ret
    have ho := O3.out
    obtain ⟨A2, c2, rfl, _⟩ := RowZ.own ho
    rw [HL.out] at ho
    rw [HL.out]
    exact ⟨A2, c2, rfl, ho, B3.out⟩
set_option maxRecDepth 100000 in
set_option maxHeartbeats 1000000 in
theorem growZ13_any (n : Nat) (hn : n ≤ 1000000) (w : World) :
    Calls Try.prog 39 #[.slice none 0 0, .int .i64 n] w fun e w' => ∃ v, e = .returned v ∧ w'.ownsRow w.heap.size 3 1 v 0 [] ∧ Below w.heap.size w w' := by
  obtain ⟨i0, hi, hz0, hz1, hz2⟩ := info_parts int_info13
  rcases Nat.eq_zero_or_pos n with rfl | h0
  · go_enter Try.func39, Try.ntmps39
    go_wp2
    go_ret
    exact ⟨_, rfl, ⟨rfl, .inl ⟨rfl, rfl⟩⟩, Below.refl _ _⟩
  · have hA := fun ty => Lib.run_append_nil_zeros (P := Try.prog) w 22 3 ty 3 i0 (.int .i64 0) .i64 .i64 Try.underlying22 Try.underlying3 hi hz0 n h0 (by rw [hz1]; decide) (by omega) (by rw [hz2]; omega)
    have hge := grownCap_ge w n 0 3
    have hle := grownCap_le_maxLen w n 0 3 (by unfold maxLen; omega)
    have hO := World.ownsRow_made (base := w.heap.size) (e := 3) (size := 1) w.drew (Builtin.zeroCells (Value.int .i64 0).cells n ++ Builtin.zeroCells (Value.int .i64 0).cells (grownCap w n 0 3 - n)) (grownCap w n 0 3) (Nat.le_refl _) hle (by rw [Array.size_append, size_zeroCells, size_zeroCells]; show n * 1 + _ * 1 = _ * 1; omega)
    have hB : Below w.heap.size w (w.drew.alloc (.cells (Builtin.zeroCells (Value.int .i64 0).cells n ++ Builtin.zeroCells (Value.int .i64 0).cells (grownCap w n 0 3 - n)) 3)) := (Below.refl _ w).drew.alloc (Nat.le_refl _) _
    generalize (w.drew.alloc (.cells (Builtin.zeroCells (Value.int .i64 0).cells n ++ Builtin.zeroCells (Value.int .i64 0).cells (grownCap w n 0 3 - n)) 3)) = W1 at *
    generalize grownCap w n 0 3 = G at *
    have HA := Lib.hid hA
    have HO := Lib.hid hO
    have HB := Lib.hid hB
    have e0 : w.drew.heap.size = w.heap.size := rfl
    rw [e0] at HO
    unfold maxLen at hle
    clear hA hO hB e0
    go_enter Try.func39, Try.ntmps39
    go_wp2_with (at_builtin; refine Lib.wpList_append_run _ rfl _ _ _ _ rfl _ _ rfl rfl _ _ (HA.out _) ?_)
    go_ret
    exact ⟨_, rfl, HO.out, HB.out⟩
def hdrZ (x : Sl13 × List Int) : Value := .slice x.1.1 x.1.2.1 x.1.2.2
structure RowsZ (w : World) (A : Option Addr) (n c : Nat) (q : List (Sl13 × List Int)) : Prop where
  len : n = q.length
  reads : Reads w A (q.map hdrZ)
  each : ∀ x ∈ q, RowZ w x.1.1 x.1.2.1 x.1.2.2 x.2
theorem RowsZ.below {w w' : World} {A : Option Addr} {n c : Nat} {q : List (Sl13 × List Int)} (h : RowsZ w A n c q) (hb : Below w.heap.size w w') : RowsZ w' A n c q :=
  ⟨h.len, h.reads.keep_ hb, fun x hx => (h.each x hx).below hb⟩
theorem RowsZ.at {w : World} {A : Option Addr} {n c : Nat} {q : List (Sl13 × List Int)} (h : RowsZ w A n c q) {k : Nat} (hk : k < q.length) :
    ∃ g off, A = some ⟨g, off, none⟩ ∧ w.cell? ⟨g, off + k, none⟩ = some (.slice (q[k]).1.1 (q[k]).1.2.1 (q[k]).1.2.2) := by
  obtain ⟨g, off, hA, hc⟩ := h.reads (by simp; omega)
  exact ⟨g, off, hA, hc k _ (by simp [List.getElem?_eq_getElem hk, hdrZ])⟩
def flatZ (q : List (Sl13 × List Int)) : List Int := q.flatMap (·.2)
theorem flatZ_snoc {q : List (Sl13 × List Int)} {k : Nat} (hk : k < q.length) : flatZ (q.take (k + 1)) = flatZ (q.take k) ++ (q[k]).2 := by
  unfold flatZ
  rw [List.take_succ_eq_append_getElem hk, List.flatMap_append]
  simp
set_option maxRecDepth 100000 in
set_option maxHeartbeats 4000000 in
theorem concatZ13_any (A : Option Addr) (n c : Nat) (q : List (Sl13 × List Int)) (w : World) (h : RowsZ w A n c q) (hl : (flatZ q).length ≤ 1000000) (hn : n ≤ 1000000) :
    Calls Try.prog 36 #[.slice A n c] w (OwnZ (flatZ q) w) := by
  have HA := Lib.hid h
  have HL := Lib.hid h.len
  have HG := Lib.hid (fun w => growZ13_any (flatZ q).length hl w)
  have hmono : ∀ k, (flatZ (q.take k)).length ≤ (flatZ q).length := fun k => by
    have : flatZ q = flatZ (q.take k) ++ flatZ (q.drop k) := by
      unfold flatZ
      rw [← List.flatMap_append, List.take_append_drop]
    rw [this, List.length_append]
    omega
  have HM := Lib.hid hmono
  obtain ⟨i0, hi, hz0, hz1, hz2⟩ := info_parts int_info13
  clear h hmono
  go_enter Try.func36, Try.ntmps36
  go_wp2
  go_loop [3, 11] (fun s i => ∃ k : Nat, k ≤ n ∧ i = .int .i64 k ∧ s = .int .i64 ((flatZ (q.take k)).length : Int)) (fun _ i => n - (intOf i).toNat)
  case atStart => exact ⟨0, Nat.zero_le _, rfl, rfl⟩
  case round =>
    obtain ⟨k, hk, rfl, rfl⟩ := hrel
    by_cases hlt : k < n
    · have hkl : k < q.length := by rw [← HL.out]; exact hlt
      obtain ⟨g, off, rfl, hc⟩ := HA.out.at hkl
      have hlen := (HA.out.each _ (List.getElem_mem hkl)).len
      have h1 := congrArg List.length (flatZ_snoc hkl)
      rw [List.length_append, ← hlen] at h1
      have h2 := HM.out (k + 1)
      rw [h1] at h2
      have HS := Lib.hid h1
      generalize (flatZ (q.take k)).length = x at *
      generalize q[k] = y at *
      have hb : x + y.1.2.1 ≤ 1000000 := by omega
      have hge : ¬ ((x : Int) + (y.1.2.1 : Int) < 0) := by omega
      clear h1 h2 hkl hlen
      go_wp2
      go_round
      case rel => exact ⟨k + 1, by omega, by go_num, by rw [HS.out]; go_num⟩
      case measure => simp [intOf]; omega
    · obtain rfl : k = n := by omega
      have e : q.take k = q := List.take_of_length_le (by rw [← HL.out]; exact Nat.le_refl _)
      rw [e]
      go_wp2_with (go_at_call 39; (with_reducible refine (HG.out _).mono ?_); rintro r1 w1 ⟨v1, rfl, o1, b1⟩; have O1 := Lib.hid o1; have B1 := Lib.hid b1; clear o1 b1)
      go_loopw [6, 27] (fun v i wr => ∃ m : Nat, m ≤ k ∧ i = .int .i64 m ∧ wr.ownsRow w.heap.size 3 1 v (flatZ (q.take m)).length ((flatZ (q.take m)).map (Value.int .i64)) ∧ Below w.heap.size w wr) (fun _ i _ => k - (intOf i).toNat)
      case atStart => exact ⟨0, Nat.zero_le _, rfl, O1.out, B1.out⟩
      case round =>
        obtain ⟨m, hm, rfl, ho, hb⟩ := hrel
        have HO := Lib.hid ho
        have HB := Lib.hid hb
        clear ho hb
        by_cases hlt2 : m < k
        · have hkl : m < q.length := by rw [← HL.out]; exact hlt2
          have hC := HA.out.below HB.out
          obtain ⟨g, off, rfl, hc⟩ := hC.at hkl
          have hy := hC.each _ (List.getElem_mem hkl)
          have h1 := flatZ_snoc hkl
          have h2 := HM.out (m + 1)
          rw [h1, List.length_append, ← hy.len] at h2
          have HS := Lib.hid h1
          generalize flatZ (q.take m) = x at *
          generalize q[m] = y at *
          have HY := Lib.hid hy
          have HLX : Hid ((flatZ (q.take (m + 1))).length = x.length + y.1.2.1) := Lib.hid (by rw [HS.out, List.length_append, ← HY.out.len])
          have HMX : Hid ((flatZ (q.take (m + 1))).map (Value.int .i64) = x.map (Value.int .i64) ++ y.2.map (Value.int .i64)) := Lib.hid (by rw [HS.out, List.map_append])
          obtain ⟨X, hX⟩ : ∃ X, x.length = X := ⟨_, rfl⟩
          rw [hX] at HO h2 HLX
          clear hX hy h1 hkl hC
          go_wp2_with (at_builtin; refine wpList_append_zs rfl _ _ 22 rfl w.heap.size 3 i0 Try.underlying22 hi hz0 hz1 hz2 _ X _ rfl HO.out y.1.1 y.1.2.1 y.1.2.2 y.2 rfl HY.out.len HY.out.nil HY.out.reads (by omega) HB.out.size ?_; intro v4 w4 h7 h8; have O4 := Lib.hid h7; have B4 := Lib.hid (HB.out.grown h8 HB.out.size (fun k hk => (HO.out.lt k hk).1)); clear h7 h8)
          go_roundw
          case rel => exact ⟨m + 1, by omega, by go_num, by rw [HLX.out, HMX.out]; exact O4.out, B4.out⟩
          case measure => simp [intOf]; omega
        · obtain rfl : m = k := by omega
          have e : q.take m = q := List.take_of_length_le (by rw [← HL.out]; exact Nat.le_refl _)
          rw [e] at HO
          obtain ⟨w3, hw3⟩ : ∃ w3 : World, w3 = wr := ⟨_, rfl⟩
          subst hw3
          obtain ⟨A2, c2, rfl, _⟩ := RowZ.own HO.out
          go_wp2
          go_ret
          exact ⟨A2, c2, rfl, HO.out, HB.out⟩
end Go.Proofs.Ytoelojlabmconaa
end
