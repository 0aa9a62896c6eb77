import Derived.Test.YtglkmpglpddfdaaGreatDoorJ21
import Derived.Test.YtglkmpglpddfdaaGreatDoorJ11
/- Of a claim's texts, joined: Lake. No statement but in the last. -/
namespace Go.Proofs.YtglkmpglpddfdaaGreatDoor
open Go.RowKit Go.Shelf
set_option linter.unusedVariables false
attribute [local go_sem] Oper.semAt_some

def rowFit (n x : Nat) : Bool := x &&& (18446744073709551615 - (2 ^ n - 1)) == 0
def pairFit (x y : Nat) : Bool := y &&& (18446744073709551615 - x) == 0
def pairOK (up : List Nat) (a d : Nat) : Bool := pairFit (up.getD a 0) (up.getD d 0) && (decide (d = a) || !leqZ up d a)
def rowOK (up : List Nat) (a : Nat) : Bool := (rowFit up.length (up.getD a 0) && leqZ up a a) && (listN (up.getD a 0)).all (pairOK up a)
def orderB (up : List Nat) : Bool := (List.range up.length).all (rowOK up)
def OrdI (A : Option Addr) (n c : Nat) (up : List Nat) (w : World) (a : Act) (W : World) : Prop :=
  ∃ (k : Nat) (ds : List Nat) (x3 x4 x5 x9 x10 x11 x12 x13 x14 x15 x16 x17 x18 x19 x20 x21 x22 x23 x24 x25 x26 x27 x28 x29 x30 x31 x32 x33 x34 x35 x36 x37 x38 x39 x40 x41 x42 x43 x44 x45 x46 : Value), a = { tmps := #[.slice A n c, .pointer (some ⟨w.heap.size, 0, none⟩), .pointer (some ⟨w.heap.size + 1, 0, none⟩), x3, x4, x5, .slice A n c, .int .i64 n, .int .i64 k, x9, x10, x11, x12, x13, x14, x15, x16, x17, x18, x19, x20, x21, x22, x23, x24, x25, x26, x27, x28, x29, x30, x31, x32, x33, x34, x35, x36, x37, x38, x39, x40, x41, x42, x43, x44, x45, x46], defers := marksD ds } ∧
    k ≤ n ∧ (∀ j, j < k → rowOK up j = true) ∧ Marks ds W ∧ (∀ D ∈ ds, w.heap.size + 2 ≤ D) ∧ Boxed W w.heap.size 24 (.slice A n c) ∧ Boxed W (w.heap.size + 1) 4 (.bool false) ∧ Below w.heap.size w W

theorem order_end {up : List Nat} {w : World} {tmps : Array Value} (b : Bool) (ds : List Nat) (W : World) (hm : Marks ds W) (hds : ∀ D ∈ ds, w.heap.size + 2 ≤ D) (bR : Boxed W (w.heap.size + 1) 4 (.bool b)) (hB : Below w.heap.size w W) (hb : orderB up = b)
    (hr : ∀ (W : World) (v : Value), W.cell? ⟨w.heap.size + 1, 0, none⟩ = some v → (results Tryz.f63 tmps).run Tryz.prog W = .ok v W) : LeavesInM Fence.wide 6 Tryz.prog Tryz.f63 tmps (BoolEnd (orderB up) w) (marksD ds) .returning W := by
  refine leavesM_marks (fun W => Boxed W (w.heap.size + 1) 4 (.bool b) ∧ Below w.heap.size w W) ds W hm ⟨bR, hB⟩ (fun D hD W' hZ hK => ⟨?_, ?_⟩) (fun W' hZ => ⟨_, hr W' _ hZ.1.cell, by rw [hb]; exact ⟨rfl, hZ.2⟩⟩)
  · refine hZ.1.kept (grownBy_putObj' W' D _) (fun e => ?_)
    have := hds D hD
    injection e with e
    omega
  · exact hZ.2.trans (belowK_b (w := w) (Nat.le_refl _) W' D _ _ (by have := hds D hD; omega) hK rfl rfl)
theorem Marks.store {ds : List Nat} {W : World} {B : Nat} (h : Marks ds W) (hB : ∀ D ∈ ds, B < D) (v : Value) : Marks ds (W.setCell ⟨B, 0, none⟩ v) :=
  ⟨h.1, fun D hD => (Below.heap_setCell W ⟨B, 0, none⟩ v D (by have := hB D hD; show D ≠ B; omega)).trans (h.2 D hD)⟩
theorem ownFrom_marks {β : Type} {ds : List Nat} {B : Nat} (h : ∀ D ∈ ds, D < B) : OwnFrom B (fun (_ : β) W => Marks ds W) := fun _ X Y row hs hg hr =>
  ⟨hs.1, fun D hD => (hg.block D (Array.getElem?_eq_some_iff.1 (hs.2 D hD)).1 (fun e => by have := (hr D e.symm).1; have := h D hD; omega)).trans (hs.2 D hD)⟩
theorem Marks.more {ds : List Nat} {W : World} {D B : Nat} (h : Marks ds W) (hB : ∀ D ∈ ds, D < B) (hD : B ≤ D) (hK : W.heap[D]? = some (.deferred (some []))) : Marks (D :: ds) W :=
  ⟨List.nodup_cons.2 ⟨fun hm => by have := hB D hm; omega, h.1⟩, fun D' hD' => by
    rcases List.mem_cons.1 hD' with rfl | hm
    · exact hK
    · exact h.2 D' hm⟩
theorem rowFit_lt {n x d : Nat} (h : rowFit n x = true) (hn : n ≤ 64) (hd : d < 64) (hb : x.testBit d = true) : d < n := by
  apply Classical.byContradiction
  intro hnd
  have h0 : x &&& (18446744073709551615 - (2 ^ n - 1)) = 0 := by simpa [rowFit] using h
  have h1 := congrArg (fun z => z.testBit d) h0
  have hp : 2 ^ n ≤ 2 ^ 64 := Nat.pow_le_pow_right (by omega) hn
  have hq : 0 < 2 ^ n := Nat.pow_pos (by omega)
  have e : 18446744073709551615 - (2 ^ n - 1) = 2 ^ 64 - ((2 ^ n - 1) + 1) := by omega
  simp only [Nat.testBit_and, hb, Bool.true_and, Nat.zero_testBit] at h1
  rw [e, Nat.testBit_two_pow_sub_succ (by omega), Nat.testBit_two_pow_sub_one] at h1
  simp [hd] at h1
  omega
theorem order_yes {up : List Nat} (h : ∀ j, j < up.length → rowOK up j = true) : orderB up = true := by
  unfold orderB
  rw [List.all_eq_true]
  exact fun j hj => h j (by simpa using hj)
theorem order_no {up : List Nat} {j : Nat} (hj : j < up.length) (h : rowOK up j = false) : orderB up = false := by
  cases e : orderB up
  · rfl
  · unfold orderB at e
    rw [List.all_eq_true] at e
    rw [e j (by simpa using hj)] at h
    cases h

set_option maxRecDepth 100000 in
set_option maxHeartbeats 4000000 in
theorem isOrder_any (up : List Nat) (A : Option Addr) (n c : Nat) (w : World) (ht : Base3 w) (h : ArgU w A n c up) (hn : n ≤ 64) :
    Calls Tryz.prog 63 #[.slice A n c] w (BoolEnd (orderB up) w) := by
  have h1 : 1 ≤ 6 := by omega
  have HT := Lib.hid ht
  have HA := Lib.hid h
  have HN := Lib.hid h.len
  clear ht h
  refine (callsIn_wide (n := 6)).1 ?_
  refine callsIn_of_wp_marks Tryz.func63 rfl trivial ?_ rfl
  simp only [Tryz.ntmps63, List.size_toArray, List.length_cons, List.length_nil, Nat.reduceAdd, Nat.reduceSub, Array.replicate_succ, Array.replicate_zero, List.push_toArray, List.append_toArray, List.nil_append, List.cons_append]
  gi_wp2
  have bU := (Boxed.new w 24 (.slice A n c)).alloc (.cells #[.bool false] 4)
  have bR := Boxed.new (w.alloc (.cells #[.slice A n c] 24)) 4 (.bool false)
  have hB0 : Below w.heap.size w ((w.alloc (.cells #[.slice A n c] 24)).alloc (.cells #[.bool false] 4)) := ((Below.refl _ w).alloc (Nat.le_refl _) _).alloc (by simp) _
  simp only [World.size_alloc] at bR
  obtain ⟨W0, hW0⟩ : ∃ W0, (w.alloc (.cells #[.slice A n c] 24)).alloc (.cells #[.bool false] 4) = W0 := ⟨_, rfl⟩
  rw [hW0] at bU bR hB0 ⊢
  clear hW0
  refine wpIn_loop (OrdI A n c up w) (fun a _ => n - (intOf (a.tmps.getD 8 undef)).toNat) ?_ ?_
  · exact ⟨0, [], undef, undef, undef, undef, undef, undef, undef, undef, undef, undef, undef, undef, undef, undef, undef, undef, undef, undef, undef, undef, undef, undef, undef, undef, undef, undef, undef, undef, undef, undef, undef, undef, undef, undef, undef, undef, undef, undef, undef, undef, undef, rfl, Nat.zero_le _, fun j hj => absurd hj (by omega), ⟨List.nodup_nil, fun D hD => (by cases hD)⟩, fun D hD => (by cases hD), bU, bR, hB0⟩
  · clear bU bR hB0 W0
    rintro a W ⟨k, ds, x3, x4, x5, x9, x10, x11, x12, x13, x14, x15, x16, x17, x18, x19, x20, x21, x22, x23, x24, x25, x26, x27, x28, x29, x30, x31, x32, x33, x34, x35, x36, x37, x38, x39, x40, x41, x42, x43, x44, x45, x46, rfl, hk, hj, hm, hds, bU, bR, hB⟩
    by_cases hlt : k < n
    · have hkl : k < up.length := by have := HN.out; omega
      obtain ⟨g, off, rfl, ck⟩ := (HA.out.below hB).reads.at_ hkl
      have hx := HA.out.big up[k] (List.getElem_mem hkl)
      have hgx : Hid (up.getD k 0 = up[k]) := Lib.hid (getD_at up k hkl)
      generalize up[k] = x at ck hx hgx
      have cU := bU.cell
      have fR := bR.frozen
      have cR := bR.cell
      have HL0 := Lib.hid (fun w1 (hb : Below w.heap.size w w1) (a b : Int) => leq_any up (some ⟨g, off, none⟩) n c a b w1 (HA.out.below hb))
      have HLb := Lib.hid (fun w1 => labels_any (some ⟨g, off, none⟩) n c w1 hn)
      have HF : Hid ((bits .andNot .u64 (x : Int) ((2 ^ n - 1 : Nat) : Int) != 0) = !rowFit n x) := Lib.hid (by
        rw [u64_andNot_nat x (2 ^ n - 1) hx (by
          have := Nat.pow_le_pow_right (n := 2) (by omega) hn
          have := Nat.pow_pos (n := n) (show 0 < 2 by omega)
          omega)]
        unfold rowFit
        rw [Bool.eq_iff_iff]
        simp)
      generalize 2 ^ n - 1 = L at HLb HF
      gi_wp2
      rename_i K hK
      have bU1 := (bU.alloc (.cells #[.int .i64 (k : Int)] 3)).alloc (.cells #[.int .u64 (x : Int)] 37)
      have bR1 := (bR.alloc (.cells #[.int .i64 (k : Int)] 3)).alloc (.cells #[.int .u64 (x : Int)] 37)
      have bC1 := (Boxed.new W 3 (.int .i64 (k : Int))).alloc (.cells #[.int .u64 (x : Int)] 37)
      have bX1 := Boxed.new (W.alloc (.cells #[.int .i64 (k : Int)] 3)) 37 (.int .u64 (x : Int))
      have hB1 := below_alloc' (below_alloc' hB (.cells #[.int .i64 (k : Int)] 3)) (.cells #[.int .u64 (x : Int)] 37)
      have hm1 := hm.below (below_alloc' (below_alloc' (Below.refl _ W) (.cells #[.int .i64 (k : Int)] 3)) (.cells #[.int .u64 (x : Int)] 37))
      simp only [World.size_alloc] at bX1
      obtain ⟨W1, hW1⟩ : ∃ W1, (W.alloc (.cells #[.int .i64 (k : Int)] 3)).alloc (.cells #[.int .u64 (x : Int)] 37) = W1 := ⟨_, rfl⟩
      have HZ1 : Hid (W1.heap.size = W.heap.size + 2) := Lib.hid (by rw [← hW1]; simp)
      rw [hW1] at bU1 bR1 bC1 bX1 hB1 hm1 ⊢
      have hWs : w.heap.size ≤ W.heap.size := hB.size
      clear hW1 bU bR cU fR cR ck
      have BD : Below W1.heap.size W1 W1.drew := (Below.refl _ _).drew
      have HC := Lib.hid (fun W2 (hb : Below W1.heap.size W1 W2) => And.intro (boxed_below bX1 hb).cell (And.intro (boxed_below bU1 hb).cell (boxed_below bC1 hb).cell))
      have hcS := HC.out _ BD
      have HLq := Lib.hid (fun w1 (hb : Below W1.heap.size W1 w1) => HL0.out w1 (below_step hB1 hb) (k : Int) (k : Int))
      refine wpIn_wide.2 ?_
      have hmx : Tryz.prog.follows .mixedOrders = true := by kernel_rfl
      refine wp_held (fun w' : World => w'.cell? ⟨W.heap.size + 1, 0, none⟩ = some (.int .u64 (x : Int)) ∧ w'.cell? ⟨w.heap.size, 0, none⟩ = some (.slice (some ⟨g, off, none⟩) n c) ∧ w'.cell? ⟨W.heap.size, 0, none⟩ = some (.int .i64 (k : Int))) (fun act W2 => ∃ y13 y14 y15 y16 y17 y18 y19 y20 y21 y22 y23 : Value, act = { tmps := #[.slice (some ⟨g, off, none⟩) n c, .pointer (some ⟨w.heap.size, 0, none⟩), .pointer (some ⟨w.heap.size + 1, 0, none⟩), .pointer (some ⟨W.heap.size, 0, none⟩), .pointer (some ⟨W.heap.size + 1, 0, none⟩), x5, .slice (some ⟨g, off, none⟩) n c, .int .i64 n, .int .i64 k, .bool true, .int .i64 k, .pointer (some ⟨g, off + k, none⟩), .int .u64 (x : Int), y13, y14, y15, y16, y17, y18, y19, y20, y21, y22, y23, .bool (!(rowFit n x && leqZ up k k)), x25, x26, x27, x28, x29, x30, x31, x32, x33, x34, x35, x36, x37, x38, x39, x40, x41, x42, x43, x44, x45, x46], defers := marksD ds } ∧ Below W1.heap.size W1 W2) hmx ?_ ?_
      · have hun := undef_is
        generalize leqZ up k k = v at HLq ⊢
        generalize rowFit n x = r at HF ⊢
        have hf := HF.out
        clear HF hK
        cases r
        · clear HLq
          refine wpAnyH_take (i := 0) (v := .int .u64 (x : Int)) rfl (by kernel_rfl) (by kernel_rfl) (by kernel_rfl) (fun _ _ _ h => h) (Or.inl ⟨by rfl, ?_⟩) hcS ?_
          · rintro w6 ⟨c1, c2, c3⟩
            go_simp
          simp only [Act.put, List.setIfInBounds_toArray, List.set_cons_zero, List.set_cons_succ, List.getElem_toArray, List.getElem_cons_zero]
          refine wpAnyH_take (i := 1) (v := .slice (some ⟨g, off, none⟩) n c) rfl (by kernel_rfl) (by kernel_rfl) (by kernel_rfl) (fun _ _ _ h => h) (Or.inl ⟨by rfl, ?_⟩) hcS ?_
          · rintro w6 ⟨c1, c2, c3⟩
            go_simp
          simp only [Act.put, List.setIfInBounds_toArray, List.set_cons_zero, List.set_cons_succ, List.getElem_toArray, List.getElem_cons_zero, List.getElem_cons_succ]
          refine wpAnyH_ready (rs := [2]) (by kernel_rfl) (by simp) ?_
          refine AllReadyH.cons rfl (fun K5 hK5 => ?_) AllReadyH.nil
          go_simp
          go_at_call 83
          refine (HLb.out _).mono ?_
          rintro e w' ⟨rfl, rfl⟩
          refine hK5.out _ _ hcS (fun _ => ?_)
          clear hK5 K5
          refine wpAnyH_take (i := 3) (v := .int .u64 (bits .andNot .u64 (x : Int) (L : Int))) rfl (by kernel_rfl) (by kernel_rfl) (by kernel_rfl) (fun _ _ _ h => h) (Or.inl ⟨by rfl, ?_⟩) hcS ?_
          · rintro w6 ⟨c1, c2, c3⟩
            go_simp
          simp only [Act.put, List.setIfInBounds_toArray, List.set_cons_zero, List.set_cons_succ, List.getElem_toArray, List.getElem_cons_zero, List.getElem_cons_succ]
          refine wpAnyH_take (i := 4) (v := .bool true) rfl (by kernel_rfl) (by kernel_rfl) (by kernel_rfl) (fun _ _ _ h => h) (Or.inl ⟨by rfl, ?_⟩) hcS ?_
          · rintro w6 ⟨c1, c2, c3⟩
            go_simp
          simp only [Act.put, List.setIfInBounds_toArray, List.set_cons_zero, List.set_cons_succ, List.getElem_toArray, List.getElem_cons_zero, List.getElem_cons_succ]
          refine wpAnyH_take (i := 5) (v := .bool true) rfl (by kernel_rfl) (by kernel_rfl) (by kernel_rfl) (fun _ _ _ h => h) (Or.inl ⟨by rfl, ?_⟩) hcS ?_
          · rintro w6 ⟨c1, c2, c3⟩
            go_simp
          simp only [Act.put, List.setIfInBounds_toArray, List.set_cons_zero, List.set_cons_succ, List.getElem_toArray, List.getElem_cons_zero, List.getElem_cons_succ]
          refine wpAnyH_take (i := 6) (v := undef) rfl (by kernel_rfl) (by kernel_rfl) (by kernel_rfl) (fun _ _ _ h => h) (Or.inr ⟨by rfl, rfl⟩) hcS ?_
          simp only [Act.put, List.setIfInBounds_toArray, List.set_cons_zero, List.set_cons_succ, List.getElem_toArray, List.getElem_cons_zero, List.getElem_cons_succ]
          refine wpAnyH_take (i := 7) (v := undef) rfl (by kernel_rfl) (by kernel_rfl) (by kernel_rfl) (fun _ _ _ h => h) (Or.inr ⟨by rfl, rfl⟩) hcS ?_
          simp only [Act.put, List.setIfInBounds_toArray, List.set_cons_zero, List.set_cons_succ, List.getElem_toArray, List.getElem_cons_zero, List.getElem_cons_succ]
          refine wpAnyH_take (i := 8) (v := undef) rfl (by kernel_rfl) (by kernel_rfl) (by kernel_rfl) (fun _ _ _ h => h) (Or.inr ⟨by rfl, rfl⟩) hcS ?_
          simp only [Act.put, List.setIfInBounds_toArray, List.set_cons_zero, List.set_cons_succ, List.getElem_toArray, List.getElem_cons_zero, List.getElem_cons_succ]
          refine wpAnyH_take (i := 9) (v := undef) rfl (by kernel_rfl) (by kernel_rfl) (by kernel_rfl) (fun _ _ _ h => h) (Or.inr ⟨by rfl, rfl⟩) hcS ?_
          simp only [Act.put, List.setIfInBounds_toArray, List.set_cons_zero, List.set_cons_succ, List.getElem_toArray, List.getElem_cons_zero, List.getElem_cons_succ]
          refine wpAnyH_take (i := 10) (v := undef) rfl (by kernel_rfl) (by kernel_rfl) (by kernel_rfl) (fun _ _ _ h => h) (Or.inr ⟨by rfl, rfl⟩) hcS ?_
          simp only [Act.put, List.setIfInBounds_toArray, List.set_cons_zero, List.set_cons_succ, List.getElem_toArray, List.getElem_cons_zero, List.getElem_cons_succ]
          refine wpAnyH_take (i := 11) (v := .bool true) rfl (by kernel_rfl) (by kernel_rfl) (by kernel_rfl) (fun _ _ _ h => h) (Or.inl ⟨by rfl, ?_⟩) hcS ?_
          · rintro w6 ⟨c1, c2, c3⟩
            go_simp
          simp only [Act.put, List.setIfInBounds_toArray, List.set_cons_zero, List.set_cons_succ, List.getElem_toArray, List.getElem_cons_zero, List.getElem_cons_succ]
          exact wpAnyH_done (by kernel_rfl) ⟨_, _, _, _, _, _, _, _, _, _, _, rfl, by (repeat (first | exact BD | exact Below.refl _ _ | refine below_step ?_ (by assumption) | refine below_alloc' ?_ _ | refine Below.drew ?_))⟩ _
        · cases v
          · skip
            refine wpAnyH_take (i := 0) (v := .int .u64 (x : Int)) rfl (by kernel_rfl) (by kernel_rfl) (by kernel_rfl) (fun _ _ _ h => h) (Or.inl ⟨by rfl, ?_⟩) hcS ?_
            · rintro w6 ⟨c1, c2, c3⟩
              go_simp
            simp only [Act.put, List.setIfInBounds_toArray, List.set_cons_zero, List.set_cons_succ, List.getElem_toArray, List.getElem_cons_zero]
            refine wpAnyH_take (i := 1) (v := .slice (some ⟨g, off, none⟩) n c) rfl (by kernel_rfl) (by kernel_rfl) (by kernel_rfl) (fun _ _ _ h => h) (Or.inl ⟨by rfl, ?_⟩) hcS ?_
            · rintro w6 ⟨c1, c2, c3⟩
              go_simp
            simp only [Act.put, List.setIfInBounds_toArray, List.set_cons_zero, List.set_cons_succ, List.getElem_toArray, List.getElem_cons_zero, List.getElem_cons_succ]
            refine wpAnyH_ready (rs := [2]) (by kernel_rfl) (by simp) ?_
            refine AllReadyH.cons rfl (fun K5 hK5 => ?_) AllReadyH.nil
            go_simp
            go_at_call 83
            refine (HLb.out _).mono ?_
            rintro e w' ⟨rfl, rfl⟩
            refine hK5.out _ _ hcS (fun _ => ?_)
            clear hK5 K5
            refine wpAnyH_take (i := 3) (v := .int .u64 (bits .andNot .u64 (x : Int) (L : Int))) rfl (by kernel_rfl) (by kernel_rfl) (by kernel_rfl) (fun _ _ _ h => h) (Or.inl ⟨by rfl, ?_⟩) hcS ?_
            · rintro w6 ⟨c1, c2, c3⟩
              go_simp
            simp only [Act.put, List.setIfInBounds_toArray, List.set_cons_zero, List.set_cons_succ, List.getElem_toArray, List.getElem_cons_zero, List.getElem_cons_succ]
            refine wpAnyH_take (i := 4) (v := .bool false) rfl (by kernel_rfl) (by kernel_rfl) (by kernel_rfl) (fun _ _ _ h => h) (Or.inl ⟨by rfl, ?_⟩) hcS ?_
            · rintro w6 ⟨c1, c2, c3⟩
              go_simp
            simp only [Act.put, List.setIfInBounds_toArray, List.set_cons_zero, List.set_cons_succ, List.getElem_toArray, List.getElem_cons_zero, List.getElem_cons_succ]
            refine wpAnyH_take (i := 5) (v := .bool false) rfl (by kernel_rfl) (by kernel_rfl) (by kernel_rfl) (fun _ _ _ h => h) (Or.inl ⟨by rfl, ?_⟩) hcS ?_
            · rintro w6 ⟨c1, c2, c3⟩
              go_simp
            simp only [Act.put, List.setIfInBounds_toArray, List.set_cons_zero, List.set_cons_succ, List.getElem_toArray, List.getElem_cons_zero, List.getElem_cons_succ]
            refine wpAnyH_take (i := 6) (v := .slice (some ⟨g, off, none⟩) n c) rfl (by kernel_rfl) (by kernel_rfl) (by kernel_rfl) (fun _ _ _ h => h) (Or.inl ⟨by rfl, ?_⟩) hcS ?_
            · rintro w6 ⟨c1, c2, c3⟩
              go_simp
            simp only [Act.put, List.setIfInBounds_toArray, List.set_cons_zero, List.set_cons_succ, List.getElem_toArray, List.getElem_cons_zero, List.getElem_cons_succ]
            refine wpAnyH_take (i := 7) (v := .int .i64 (k : Int)) rfl (by kernel_rfl) (by kernel_rfl) (by kernel_rfl) (fun _ _ _ h => h) (Or.inl ⟨by rfl, ?_⟩) hcS ?_
            · rintro w6 ⟨c1, c2, c3⟩
              go_simp
            simp only [Act.put, List.setIfInBounds_toArray, List.set_cons_zero, List.set_cons_succ, List.getElem_toArray, List.getElem_cons_zero, List.getElem_cons_succ]
            refine wpAnyH_take (i := 8) (v := .int .i64 (k : Int)) rfl (by kernel_rfl) (by kernel_rfl) (by kernel_rfl) (fun _ _ _ h => h) (Or.inl ⟨by rfl, ?_⟩) hcS ?_
            · rintro w6 ⟨c1, c2, c3⟩
              go_simp
            simp only [Act.put, List.setIfInBounds_toArray, List.set_cons_zero, List.set_cons_succ, List.getElem_toArray, List.getElem_cons_zero, List.getElem_cons_succ]
            refine wpAnyH_ready (rs := [9]) (by kernel_rfl) (by simp) ?_
            refine AllReadyH.cons rfl (fun K5 hK5 => ?_) AllReadyH.nil
            go_simp
            go_at_call 42
            refine (HLq.out _ BD).mono ?_
            rintro e w5 ⟨rfl, b5⟩
            have hcS5 : ((fun w' : World => w'.cell? ⟨W.heap.size + 1, 0, none⟩ = some (.int .u64 (x : Int)) ∧ w'.cell? ⟨w.heap.size, 0, none⟩ = some (.slice (some ⟨g, off, none⟩) n c) ∧ w'.cell? ⟨W.heap.size, 0, none⟩ = some (.int .i64 (k : Int)))) w5 := ⟨cell_below hcS.1 b5, cell_below hcS.2.1 b5, cell_below hcS.2.2 b5⟩
            refine hK5.out _ _ hcS5 (fun _ => ?_)
            clear hK5 K5
            refine wpAnyH_take (i := 10) (v := .bool true) rfl (by kernel_rfl) (by kernel_rfl) (by kernel_rfl) (fun _ _ _ h => h) (Or.inl ⟨by rfl, ?_⟩) hcS5 ?_
            · rintro w6 ⟨c1, c2, c3⟩
              go_simp
            simp only [Act.put, List.setIfInBounds_toArray, List.set_cons_zero, List.set_cons_succ, List.getElem_toArray, List.getElem_cons_zero, List.getElem_cons_succ]
            refine wpAnyH_take (i := 11) (v := .bool true) rfl (by kernel_rfl) (by kernel_rfl) (by kernel_rfl) (fun _ _ _ h => h) (Or.inl ⟨by rfl, ?_⟩) hcS5 ?_
            · rintro w6 ⟨c1, c2, c3⟩
              go_simp
            simp only [Act.put, List.setIfInBounds_toArray, List.set_cons_zero, List.set_cons_succ, List.getElem_toArray, List.getElem_cons_zero, List.getElem_cons_succ]
            exact wpAnyH_done (by kernel_rfl) ⟨_, _, _, _, _, _, _, _, _, _, _, rfl, by (repeat (first | exact BD | exact Below.refl _ _ | refine below_step ?_ (by assumption) | refine below_alloc' ?_ _ | refine Below.drew ?_))⟩ _
          · skip
            refine wpAnyH_take (i := 0) (v := .int .u64 (x : Int)) rfl (by kernel_rfl) (by kernel_rfl) (by kernel_rfl) (fun _ _ _ h => h) (Or.inl ⟨by rfl, ?_⟩) hcS ?_
            · rintro w6 ⟨c1, c2, c3⟩
              go_simp
            simp only [Act.put, List.setIfInBounds_toArray, List.set_cons_zero, List.set_cons_succ, List.getElem_toArray, List.getElem_cons_zero]
            refine wpAnyH_take (i := 1) (v := .slice (some ⟨g, off, none⟩) n c) rfl (by kernel_rfl) (by kernel_rfl) (by kernel_rfl) (fun _ _ _ h => h) (Or.inl ⟨by rfl, ?_⟩) hcS ?_
            · rintro w6 ⟨c1, c2, c3⟩
              go_simp
            simp only [Act.put, List.setIfInBounds_toArray, List.set_cons_zero, List.set_cons_succ, List.getElem_toArray, List.getElem_cons_zero, List.getElem_cons_succ]
            refine wpAnyH_ready (rs := [2]) (by kernel_rfl) (by simp) ?_
            refine AllReadyH.cons rfl (fun K5 hK5 => ?_) AllReadyH.nil
            go_simp
            go_at_call 83
            refine (HLb.out _).mono ?_
            rintro e w' ⟨rfl, rfl⟩
            refine hK5.out _ _ hcS (fun _ => ?_)
            clear hK5 K5
            refine wpAnyH_take (i := 3) (v := .int .u64 (bits .andNot .u64 (x : Int) (L : Int))) rfl (by kernel_rfl) (by kernel_rfl) (by kernel_rfl) (fun _ _ _ h => h) (Or.inl ⟨by rfl, ?_⟩) hcS ?_
            · rintro w6 ⟨c1, c2, c3⟩
              go_simp
            simp only [Act.put, List.setIfInBounds_toArray, List.set_cons_zero, List.set_cons_succ, List.getElem_toArray, List.getElem_cons_zero, List.getElem_cons_succ]
            refine wpAnyH_take (i := 4) (v := .bool false) rfl (by kernel_rfl) (by kernel_rfl) (by kernel_rfl) (fun _ _ _ h => h) (Or.inl ⟨by rfl, ?_⟩) hcS ?_
            · rintro w6 ⟨c1, c2, c3⟩
              go_simp
            simp only [Act.put, List.setIfInBounds_toArray, List.set_cons_zero, List.set_cons_succ, List.getElem_toArray, List.getElem_cons_zero, List.getElem_cons_succ]
            refine wpAnyH_take (i := 5) (v := .bool false) rfl (by kernel_rfl) (by kernel_rfl) (by kernel_rfl) (fun _ _ _ h => h) (Or.inl ⟨by rfl, ?_⟩) hcS ?_
            · rintro w6 ⟨c1, c2, c3⟩
              go_simp
            simp only [Act.put, List.setIfInBounds_toArray, List.set_cons_zero, List.set_cons_succ, List.getElem_toArray, List.getElem_cons_zero, List.getElem_cons_succ]
            refine wpAnyH_take (i := 6) (v := .slice (some ⟨g, off, none⟩) n c) rfl (by kernel_rfl) (by kernel_rfl) (by kernel_rfl) (fun _ _ _ h => h) (Or.inl ⟨by rfl, ?_⟩) hcS ?_
            · rintro w6 ⟨c1, c2, c3⟩
              go_simp
            simp only [Act.put, List.setIfInBounds_toArray, List.set_cons_zero, List.set_cons_succ, List.getElem_toArray, List.getElem_cons_zero, List.getElem_cons_succ]
            refine wpAnyH_take (i := 7) (v := .int .i64 (k : Int)) rfl (by kernel_rfl) (by kernel_rfl) (by kernel_rfl) (fun _ _ _ h => h) (Or.inl ⟨by rfl, ?_⟩) hcS ?_
            · rintro w6 ⟨c1, c2, c3⟩
              go_simp
            simp only [Act.put, List.setIfInBounds_toArray, List.set_cons_zero, List.set_cons_succ, List.getElem_toArray, List.getElem_cons_zero, List.getElem_cons_succ]
            refine wpAnyH_take (i := 8) (v := .int .i64 (k : Int)) rfl (by kernel_rfl) (by kernel_rfl) (by kernel_rfl) (fun _ _ _ h => h) (Or.inl ⟨by rfl, ?_⟩) hcS ?_
            · rintro w6 ⟨c1, c2, c3⟩
              go_simp
            simp only [Act.put, List.setIfInBounds_toArray, List.set_cons_zero, List.set_cons_succ, List.getElem_toArray, List.getElem_cons_zero, List.getElem_cons_succ]
            refine wpAnyH_ready (rs := [9]) (by kernel_rfl) (by simp) ?_
            refine AllReadyH.cons rfl (fun K5 hK5 => ?_) AllReadyH.nil
            go_simp
            go_at_call 42
            refine (HLq.out _ BD).mono ?_
            rintro e w5 ⟨rfl, b5⟩
            have hcS5 : ((fun w' : World => w'.cell? ⟨W.heap.size + 1, 0, none⟩ = some (.int .u64 (x : Int)) ∧ w'.cell? ⟨w.heap.size, 0, none⟩ = some (.slice (some ⟨g, off, none⟩) n c) ∧ w'.cell? ⟨W.heap.size, 0, none⟩ = some (.int .i64 (k : Int)))) w5 := ⟨cell_below hcS.1 b5, cell_below hcS.2.1 b5, cell_below hcS.2.2 b5⟩
            refine hK5.out _ _ hcS5 (fun _ => ?_)
            clear hK5 K5
            refine wpAnyH_take (i := 10) (v := .bool false) rfl (by kernel_rfl) (by kernel_rfl) (by kernel_rfl) (fun _ _ _ h => h) (Or.inl ⟨by rfl, ?_⟩) hcS5 ?_
            · rintro w6 ⟨c1, c2, c3⟩
              go_simp
            simp only [Act.put, List.setIfInBounds_toArray, List.set_cons_zero, List.set_cons_succ, List.getElem_toArray, List.getElem_cons_zero, List.getElem_cons_succ]
            refine wpAnyH_take (i := 11) (v := .bool false) rfl (by kernel_rfl) (by kernel_rfl) (by kernel_rfl) (fun _ _ _ h => h) (Or.inl ⟨by rfl, ?_⟩) hcS5 ?_
            · rintro w6 ⟨c1, c2, c3⟩
              go_simp
            simp only [Act.put, List.setIfInBounds_toArray, List.set_cons_zero, List.set_cons_succ, List.getElem_toArray, List.getElem_cons_zero, List.getElem_cons_succ]
            exact wpAnyH_done (by kernel_rfl) ⟨_, _, _, _, _, _, _, _, _, _, _, rfl, by (repeat (first | exact BD | exact Below.refl _ _ | refine below_step ?_ (by assumption) | refine below_alloc' ?_ _ | refine Below.drew ?_))⟩ _
      · rintro act W2 ⟨y13, y14, y15, y16, y17, y18, y19, y20, y21, y22, y23, rfl, hBW⟩
        clear hcS
        have hB2 := below_step hB1 hBW
        have hm2 := hm1.below hBW
        have bU2 := boxed_below bU1 hBW
        have bR2 := boxed_below bR1 hBW
        have bC2 := boxed_below bC1 hBW
        have bX2 := boxed_below bX1 hBW
        clear bU1 bR1 bC1 bX1 hB1 hm1 HC HLb HLq HF
        have hW12 := hBW.size
        have hz1 := HZ1.out
        refine hK _ _ ?_
        clear hK K
        cases hq : (rowFit n x && leqZ up k k)
        · have fR := bR2.frozen
          have cR := bR2.cell
          gi_wp2
          exact order_end false ds _ (hm2.store (fun D hD => by have := hds D hD; omega) _) hds (bR2.set _) (hB2.setCell (p := ⟨w.heap.size + 1, 0, none⟩) (by simp) _)
            (order_no hkl (by unfold rowOK; rw [← HN.out, hgx.out, hq]; rfl)) (fun W v hc => by simp [results, Tryz.f63, go_sem, hc])
        · have hqs := hq
          rw [Bool.and_eq_true] at hqs
          have cX := bX2.cell
          have HE := Lib.hid (fun w1 => each_any x w1)
          gi_wp2_with (refine ⟨trivial, ?_⟩; gi_at_call 105; refine (callsIn_wide.2 (HE.out _)).mono ?_; rintro e w' ⟨rfl, rfl⟩)
          have hB3 := below_alloc' (Below.refl _ W2) (.cells #[.int .u64 (x : Int)] 37)
          have bI := Boxed.new W2 37 (.int .u64 (x : Int))
          have hm3 := hm2.below hB3
          have bU3 := boxed_below bU2 hB3
          have bR3 := boxed_below bR2 hB3
          have bC3 := boxed_below bC2 hB3
          have bX3 := boxed_below bX2 hB3
          have hB30 := below_step hB2 hB3
          have hT3 := HT.out.below hB30
          obtain ⟨W3, hW3⟩ : ∃ W3, W2.alloc (.cells #[.int .u64 (x : Int)] 37) = W3 := ⟨_, rfl⟩
          have hz3 : W3.heap.size = W2.heap.size + 1 := by rw [← hW3]; simp
          rw [hW3] at bI hm3 bU3 bR3 bC3 bX3 hB30 hT3 ⊢
          have hdl : ∀ D ∈ ds, D < W3.heap.size := fun D hD => (Array.getElem?_eq_some_iff.1 (hm3.2 D hD)).1
          clear hW3 hB3 bU2 bR2 bC2 bX2 hm2 hB2 cX
          refine wpIn_rangeFunc_ownG rfl h1 (gf := 124) (lb := #[.pointer (some ⟨W2.heap.size, 0, none⟩)]) rfl trivial (enters_of Tryz.func124 (by kernel_rfl) rfl)
            (each_stopsR 5 (by omega) W2.heap.size W3.heap.size x hx (fun d => d < n) (fun d hd => rowFit_lt hqs.1 hn ((listN_mem x d).1 hd).1 ((listN_mem x d).1 hd).2) W3 (by omega) (Nat.le_refl _) hT3.1 bI.cell hT3.2) belowK_t (belowK_b (Nat.le_refl _)) (Below.refl _ _) (fun _ => rfl)
            (fun (pre : List {d : Nat // d < n}) W' => (∀ d ∈ pre, pairOK up k d.1 = true) ∧ Below W3.heap.size W3 W')
            (fun c (pre : List {d : Nat // d < n}) W' => (((c = .ret ∧ ∃ d ∈ pre, pairOK up k d.1 = false) ∧ Boxed W' (w.heap.size + 1) 4 (.bool false)) ∧ Marks ds W') ∧ Below w.heap.size w W')
            (OwnFrom.and (ownFrom_pure _ _) (ownFrom_below (Nat.le_refl _) (Nat.le_refl _)))
            (fun c => OwnFrom.and (OwnFrom.and (OwnFrom.and (ownFrom_pure _ _) (Own.from (boxed_own _ _ _) _)) (ownFrom_marks hdl)) (ownFrom_below (Nat.le_refl _) (by have := hB30.size; omega)))
            ⟨fun d hd => (by cases hd), Below.refl _ _⟩
            (fun (d : {d : Nat // d < n}) => { tmps := #[.slice (some ⟨g, off, none⟩) n c, .pointer (some ⟨w.heap.size, 0, none⟩), .pointer (some ⟨w.heap.size + 1, 0, none⟩), .pointer (some ⟨W.heap.size, 0, none⟩), .pointer (some ⟨W.heap.size + 1, 0, none⟩), .int .i64 (d.1 : Int), .slice (some ⟨g, off, none⟩) n c, .int .i64 n, .int .i64 k, .bool true, .int .i64 k, .pointer (some ⟨g, off + k, none⟩), .int .u64 (x : Int), y13, y14, y15, y16, y17, y18, y19, y20, y21, y22, y23, .bool false, .int .u64 (x : Int), .func (.func 124) #[] #[.pointer (some ⟨W2.heap.size, 0, none⟩)], .int .i64 (d.1 : Int), x28, x29, x30, x31, x32, x33, x34, x35, x36, x37, x38, x39, x40, x41, x42, x43, x44, x45, x46], defers := [] }) ?assign ?body ?done ?stop
          case assign =>
            intro l d W' K' hK'
            gi_wp2
            exact hK'
          case body =>
            rintro l pre d W' ⟨hp, hBW'⟩ hlen
            have hmx : Tryz.prog.follows .mixedOrders = true := by kernel_rfl
            have h3 : 1 ≤ 6 - 1 - 1 := by omega
            have hBd := below_step hB30 hBW'
            have hdn := d.2
            have hdu : d.1 < up.length := by have := HN.out; omega
            have cd : W'.drew.cell? ⟨g, off + d.1, none⟩ = some (.int .u64 (up[d.1] : Int)) := by
              obtain ⟨g2, off2, e, cd⟩ := (HA.out.below hBd).reads.at_ hdu
              cases e
              exact cd
            have hy := HA.out.big up[d.1] (List.getElem_mem hdu)
            have HF2 : Hid ((bits .andNot .u64 (up[d.1] : Int) (x : Int) != 0) = !pairFit x up[d.1]) := Lib.hid (by
              rw [u64_andNot_nat _ x hy hx]
              unfold pairFit
              rw [Bool.eq_iff_iff]
              simp)
            have HP : Hid (pairOK up k d.1 = (pairFit x up[d.1] && (decide (d.1 = k) || !leqZ up d.1 k))) := Lib.hid (by
              unfold pairOK
              rw [hgx.out, getD_at up d.1 hdu])
            have HLd := Lib.hid (fun w1 (hb : Below W'.heap.size W' w1) => HL0.out w1 (below_step hBd hb) (d.1 : Int) (k : Int))
            generalize up[d.1] = y at cd hy HF2 HP
            have BD : Below W'.heap.size W' W'.drew := (Below.refl _ _).drew
            have bR4 := boxed_below bR3 hBW'
            have cX4 : W'.drew.cell? ⟨W.heap.size + 1, 0, none⟩ = some (.int .u64 (x : Int)) := (boxed_below bX3 hBW').cell
            have cU4 : W'.drew.cell? ⟨w.heap.size, 0, none⟩ = some (.slice (some ⟨g, off, none⟩) n c) := (boxed_below bU3 hBW').cell
            have cC4 : W'.drew.cell? ⟨W.heap.size, 0, none⟩ = some (.int .i64 (k : Int)) := (boxed_below bC3 hBW').cell
            have hm4 := hm3.below hBW'
            have hi0 : (0 : Int) ≤ (d.1 : Int) := by omega
            have hi1 : (d.1 : Int) < (n : Int) := by omega
            generalize pairFit x y = r at HF2 HP
            generalize leqZ up d.1 k = v at HLd HP
            have hf := HF2.out
            have hcase : (r = false) ∨ (r = true ∧ ((d.1 : Int) != (k : Int)) = false ∧ d.1 = k) ∨ (r = true ∧ ((d.1 : Int) != (k : Int)) = true ∧ d.1 ≠ k ∧ v = true) ∨ (r = true ∧ ((d.1 : Int) != (k : Int)) = true ∧ d.1 ≠ k ∧ v = false) := by
              cases r
              · exact .inl rfl
              · right
                by_cases e : d.1 = k
                · left; exact ⟨rfl, by simp [e], e⟩
                · right
                  have hne : ((d.1 : Int) != (k : Int)) = true := by simp; omega
                  cases v
                  · right; exact ⟨rfl, hne, e, rfl⟩
                  · left; exact ⟨rfl, hne, e, rfl⟩
            clear HF2 bX3 bU3 bC3 hdu
            have hcS : ((fun w' : World => w'.cell? ⟨w.heap.size, 0, none⟩ = some (.slice (some ⟨g, off, none⟩) n c) ∧ w'.cell? ⟨g, off + d.1, none⟩ = some (.int .u64 (y : Int)) ∧ w'.cell? ⟨W.heap.size + 1, 0, none⟩ = some (.int .u64 (x : Int)) ∧ w'.cell? ⟨W.heap.size, 0, none⟩ = some (.int .i64 (k : Int)))) W'.drew := ⟨cU4, cd, cX4, cC4⟩
            have hun := undef_is
            gi_wp2
            rename_i K4 hK4
            obtain ⟨q, hq2⟩ : ∃ q : Bool, q = !pairOK up k d.1 := ⟨_, rfl⟩
            have hq3 := hq2
            rw [HP.out] at hq3
            refine wpIn_round_held (fun w' : World => w'.cell? ⟨w.heap.size, 0, none⟩ = some (.slice (some ⟨g, off, none⟩) n c) ∧ w'.cell? ⟨g, off + d.1, none⟩ = some (.int .u64 (y : Int)) ∧ w'.cell? ⟨W.heap.size + 1, 0, none⟩ = some (.int .u64 (x : Int)) ∧ w'.cell? ⟨W.heap.size, 0, none⟩ = some (.int .i64 (k : Int))) (fun act W5 => ∃ (y28 y29 y30 y31 y32 y33 y34 y35 y36 y37 y38 y39 y40 y41 y42 y43 y44 : Value), act = { tmps := #[.slice (some ⟨g, off, none⟩) n c, .pointer (some ⟨w.heap.size, 0, none⟩), .pointer (some ⟨w.heap.size + 1, 0, none⟩), .pointer (some ⟨W.heap.size, 0, none⟩), .pointer (some ⟨W.heap.size + 1, 0, none⟩), .int .i64 (d.1 : Int), .slice (some ⟨g, off, none⟩) n c, .int .i64 n, .int .i64 k, .bool true, .int .i64 k, .pointer (some ⟨g, off + k, none⟩), .int .u64 (x : Int), y13, y14, y15, y16, y17, y18, y19, y20, y21, y22, y23, .bool false, .int .u64 (x : Int), .func (.func 124) #[] #[.pointer (some ⟨W2.heap.size, 0, none⟩)], .int .i64 (d.1 : Int), y28, y29, y30, y31, y32, y33, y34, y35, y36, y37, y38, y39, y40, y41, y42, y43, y44, .bool q, x46], defers := [] } ∧ Below W'.heap.size W' W5) hmx (noDefer_of (by kernel_rfl)) ?_ ?_
            · clear hK4 K4
              rcases hcase with rfl | ⟨rfl, hne, hdk⟩ | ⟨rfl, hne, hdk, rfl⟩ | ⟨rfl, hne, hdk, rfl⟩
              · obtain rfl : q = true := by rw [hq3]; rfl
                clear hq2 hq3
                refine wpAnyH_take (i := 0) (v := .slice (some ⟨g, off, none⟩) n c) rfl (by kernel_rfl) (by kernel_rfl) (by kernel_rfl) (fun _ _ _ h => h) (Or.inl ⟨by rfl, ?_⟩) hcS ?_
                · rintro w6 ⟨c1, c2, c3, c4⟩
                  go_simp
                simp only [Act.put, List.setIfInBounds_toArray, List.set_cons_zero, List.set_cons_succ, List.getElem_toArray, List.getElem_cons_zero]
                refine wpAnyH_take (i := 1) (v := .int .i64 (d.1 : Int)) rfl (by kernel_rfl) (by kernel_rfl) (by kernel_rfl) (fun _ _ _ h => h) (Or.inl ⟨by rfl, ?_⟩) hcS ?_
                · rintro w6 ⟨c1, c2, c3, c4⟩
                  go_simp
                simp only [Act.put, List.setIfInBounds_toArray, List.set_cons_zero, List.set_cons_succ, List.getElem_toArray, List.getElem_cons_zero, List.getElem_cons_succ]
                refine wpAnyH_take (i := 2) (v := .pointer (some ⟨g, off + d.1, none⟩)) rfl (by kernel_rfl) (by kernel_rfl) (by kernel_rfl) (fun _ _ _ h => h) (Or.inl ⟨by rfl, ?_⟩) hcS ?_
                · rintro w6 ⟨c1, c2, c3, c4⟩
                  go_simp
                simp only [Act.put, List.setIfInBounds_toArray, List.set_cons_zero, List.set_cons_succ, List.getElem_toArray, List.getElem_cons_zero, List.getElem_cons_succ]
                refine wpAnyH_take (i := 3) (v := .int .u64 (y : Int)) rfl (by kernel_rfl) (by kernel_rfl) (by kernel_rfl) (fun _ _ _ h => h) (Or.inl ⟨by rfl, ?_⟩) hcS ?_
                · rintro w6 ⟨c1, c2, c3, c4⟩
                  go_simp
                simp only [Act.put, List.setIfInBounds_toArray, List.set_cons_zero, List.set_cons_succ, List.getElem_toArray, List.getElem_cons_zero, List.getElem_cons_succ]
                refine wpAnyH_take (i := 4) (v := .int .u64 (x : Int)) rfl (by kernel_rfl) (by kernel_rfl) (by kernel_rfl) (fun _ _ _ h => h) (Or.inl ⟨by rfl, ?_⟩) hcS ?_
                · rintro w6 ⟨c1, c2, c3, c4⟩
                  go_simp
                simp only [Act.put, List.setIfInBounds_toArray, List.set_cons_zero, List.set_cons_succ, List.getElem_toArray, List.getElem_cons_zero, List.getElem_cons_succ]
                refine wpAnyH_take (i := 5) (v := .int .u64 (bits .andNot .u64 (y : Int) (x : Int))) rfl (by kernel_rfl) (by kernel_rfl) (by kernel_rfl) (fun _ _ _ h => h) (Or.inl ⟨by rfl, ?_⟩) hcS ?_
                · rintro w6 ⟨c1, c2, c3, c4⟩
                  go_simp
                simp only [Act.put, List.setIfInBounds_toArray, List.set_cons_zero, List.set_cons_succ, List.getElem_toArray, List.getElem_cons_zero, List.getElem_cons_succ]
                refine wpAnyH_take (i := 6) (v := .bool true) rfl (by kernel_rfl) (by kernel_rfl) (by kernel_rfl) (fun _ _ _ h => h) (Or.inl ⟨by rfl, ?_⟩) hcS ?_
                · rintro w6 ⟨c1, c2, c3, c4⟩
                  go_simp
                simp only [Act.put, List.setIfInBounds_toArray, List.set_cons_zero, List.set_cons_succ, List.getElem_toArray, List.getElem_cons_zero, List.getElem_cons_succ]
                refine wpAnyH_take (i := 7) (v := .bool true) rfl (by kernel_rfl) (by kernel_rfl) (by kernel_rfl) (fun _ _ _ h => h) (Or.inl ⟨by rfl, ?_⟩) hcS ?_
                · rintro w6 ⟨c1, c2, c3, c4⟩
                  go_simp
                simp only [Act.put, List.setIfInBounds_toArray, List.set_cons_zero, List.set_cons_succ, List.getElem_toArray, List.getElem_cons_zero, List.getElem_cons_succ]
                refine wpAnyH_take (i := 8) (v := undef) rfl (by kernel_rfl) (by kernel_rfl) (by kernel_rfl) (fun _ _ _ h => h) (Or.inr ⟨by rfl, rfl⟩) hcS ?_
                simp only [Act.put, List.setIfInBounds_toArray, List.set_cons_zero, List.set_cons_succ, List.getElem_toArray, List.getElem_cons_zero, List.getElem_cons_succ]
                refine wpAnyH_take (i := 9) (v := undef) rfl (by kernel_rfl) (by kernel_rfl) (by kernel_rfl) (fun _ _ _ h => h) (Or.inr ⟨by rfl, rfl⟩) hcS ?_
                simp only [Act.put, List.setIfInBounds_toArray, List.set_cons_zero, List.set_cons_succ, List.getElem_toArray, List.getElem_cons_zero, List.getElem_cons_succ]
                refine wpAnyH_take (i := 10) (v := undef) rfl (by kernel_rfl) (by kernel_rfl) (by kernel_rfl) (fun _ _ _ h => h) (Or.inr ⟨by rfl, rfl⟩) hcS ?_
                simp only [Act.put, List.setIfInBounds_toArray, List.set_cons_zero, List.set_cons_succ, List.getElem_toArray, List.getElem_cons_zero, List.getElem_cons_succ]
                refine wpAnyH_take (i := 11) (v := undef) rfl (by kernel_rfl) (by kernel_rfl) (by kernel_rfl) (fun _ _ _ h => h) (Or.inr ⟨by rfl, rfl⟩) hcS ?_
                simp only [Act.put, List.setIfInBounds_toArray, List.set_cons_zero, List.set_cons_succ, List.getElem_toArray, List.getElem_cons_zero, List.getElem_cons_succ]
                refine wpAnyH_take (i := 12) (v := undef) rfl (by kernel_rfl) (by kernel_rfl) (by kernel_rfl) (fun _ _ _ h => h) (Or.inr ⟨by rfl, rfl⟩) hcS ?_
                simp only [Act.put, List.setIfInBounds_toArray, List.set_cons_zero, List.set_cons_succ, List.getElem_toArray, List.getElem_cons_zero, List.getElem_cons_succ]
                refine wpAnyH_take (i := 13) (v := undef) rfl (by kernel_rfl) (by kernel_rfl) (by kernel_rfl) (fun _ _ _ h => h) (Or.inr ⟨by rfl, rfl⟩) hcS ?_
                simp only [Act.put, List.setIfInBounds_toArray, List.set_cons_zero, List.set_cons_succ, List.getElem_toArray, List.getElem_cons_zero, List.getElem_cons_succ]
                refine wpAnyH_take (i := 14) (v := undef) rfl (by kernel_rfl) (by kernel_rfl) (by kernel_rfl) (fun _ _ _ h => h) (Or.inr ⟨by rfl, rfl⟩) hcS ?_
                simp only [Act.put, List.setIfInBounds_toArray, List.set_cons_zero, List.set_cons_succ, List.getElem_toArray, List.getElem_cons_zero, List.getElem_cons_succ]
                refine wpAnyH_take (i := 15) (v := undef) rfl (by kernel_rfl) (by kernel_rfl) (by kernel_rfl) (fun _ _ _ h => h) (Or.inr ⟨by rfl, rfl⟩) hcS ?_
                simp only [Act.put, List.setIfInBounds_toArray, List.set_cons_zero, List.set_cons_succ, List.getElem_toArray, List.getElem_cons_zero, List.getElem_cons_succ]
                refine wpAnyH_take (i := 16) (v := undef) rfl (by kernel_rfl) (by kernel_rfl) (by kernel_rfl) (fun _ _ _ h => h) (Or.inr ⟨by rfl, rfl⟩) hcS ?_
                simp only [Act.put, List.setIfInBounds_toArray, List.set_cons_zero, List.set_cons_succ, List.getElem_toArray, List.getElem_cons_zero, List.getElem_cons_succ]
                refine wpAnyH_take (i := 17) (v := .bool true) rfl (by kernel_rfl) (by kernel_rfl) (by kernel_rfl) (fun _ _ _ h => h) (Or.inl ⟨by rfl, ?_⟩) hcS ?_
                · rintro w6 ⟨c1, c2, c3, c4⟩
                  go_simp
                simp only [Act.put, List.setIfInBounds_toArray, List.set_cons_zero, List.set_cons_succ, List.getElem_toArray, List.getElem_cons_zero, List.getElem_cons_succ]
                exact wpAnyH_done (by kernel_rfl) ⟨_, _, _, _, _, _, _, _, _, _, _, _, _, _, _, _, _, rfl, by (repeat (first | exact BD | exact Below.refl _ _ | refine below_step ?_ (by assumption) | refine below_alloc' ?_ _ | refine Below.drew ?_))⟩ _
              · obtain rfl : q = false := by rw [hq3]; simp [hdk]
                clear hq2 hq3 hdk
                refine wpAnyH_take (i := 0) (v := .slice (some ⟨g, off, none⟩) n c) rfl (by kernel_rfl) (by kernel_rfl) (by kernel_rfl) (fun _ _ _ h => h) (Or.inl ⟨by rfl, ?_⟩) hcS ?_
                · rintro w6 ⟨c1, c2, c3, c4⟩
                  go_simp
                simp only [Act.put, List.setIfInBounds_toArray, List.set_cons_zero, List.set_cons_succ, List.getElem_toArray, List.getElem_cons_zero]
                refine wpAnyH_take (i := 1) (v := .int .i64 (d.1 : Int)) rfl (by kernel_rfl) (by kernel_rfl) (by kernel_rfl) (fun _ _ _ h => h) (Or.inl ⟨by rfl, ?_⟩) hcS ?_
                · rintro w6 ⟨c1, c2, c3, c4⟩
                  go_simp
                simp only [Act.put, List.setIfInBounds_toArray, List.set_cons_zero, List.set_cons_succ, List.getElem_toArray, List.getElem_cons_zero, List.getElem_cons_succ]
                refine wpAnyH_take (i := 2) (v := .pointer (some ⟨g, off + d.1, none⟩)) rfl (by kernel_rfl) (by kernel_rfl) (by kernel_rfl) (fun _ _ _ h => h) (Or.inl ⟨by rfl, ?_⟩) hcS ?_
                · rintro w6 ⟨c1, c2, c3, c4⟩
                  go_simp
                simp only [Act.put, List.setIfInBounds_toArray, List.set_cons_zero, List.set_cons_succ, List.getElem_toArray, List.getElem_cons_zero, List.getElem_cons_succ]
                refine wpAnyH_take (i := 3) (v := .int .u64 (y : Int)) rfl (by kernel_rfl) (by kernel_rfl) (by kernel_rfl) (fun _ _ _ h => h) (Or.inl ⟨by rfl, ?_⟩) hcS ?_
                · rintro w6 ⟨c1, c2, c3, c4⟩
                  go_simp
                simp only [Act.put, List.setIfInBounds_toArray, List.set_cons_zero, List.set_cons_succ, List.getElem_toArray, List.getElem_cons_zero, List.getElem_cons_succ]
                refine wpAnyH_take (i := 4) (v := .int .u64 (x : Int)) rfl (by kernel_rfl) (by kernel_rfl) (by kernel_rfl) (fun _ _ _ h => h) (Or.inl ⟨by rfl, ?_⟩) hcS ?_
                · rintro w6 ⟨c1, c2, c3, c4⟩
                  go_simp
                simp only [Act.put, List.setIfInBounds_toArray, List.set_cons_zero, List.set_cons_succ, List.getElem_toArray, List.getElem_cons_zero, List.getElem_cons_succ]
                refine wpAnyH_take (i := 5) (v := .int .u64 (bits .andNot .u64 (y : Int) (x : Int))) rfl (by kernel_rfl) (by kernel_rfl) (by kernel_rfl) (fun _ _ _ h => h) (Or.inl ⟨by rfl, ?_⟩) hcS ?_
                · rintro w6 ⟨c1, c2, c3, c4⟩
                  go_simp
                simp only [Act.put, List.setIfInBounds_toArray, List.set_cons_zero, List.set_cons_succ, List.getElem_toArray, List.getElem_cons_zero, List.getElem_cons_succ]
                refine wpAnyH_take (i := 6) (v := .bool false) rfl (by kernel_rfl) (by kernel_rfl) (by kernel_rfl) (fun _ _ _ h => h) (Or.inl ⟨by rfl, ?_⟩) hcS ?_
                · rintro w6 ⟨c1, c2, c3, c4⟩
                  go_simp
                simp only [Act.put, List.setIfInBounds_toArray, List.set_cons_zero, List.set_cons_succ, List.getElem_toArray, List.getElem_cons_zero, List.getElem_cons_succ]
                refine wpAnyH_take (i := 7) (v := .bool false) rfl (by kernel_rfl) (by kernel_rfl) (by kernel_rfl) (fun _ _ _ h => h) (Or.inl ⟨by rfl, ?_⟩) hcS ?_
                · rintro w6 ⟨c1, c2, c3, c4⟩
                  go_simp
                simp only [Act.put, List.setIfInBounds_toArray, List.set_cons_zero, List.set_cons_succ, List.getElem_toArray, List.getElem_cons_zero, List.getElem_cons_succ]
                refine wpAnyH_take (i := 8) (v := .int .i64 (d.1 : Int)) rfl (by kernel_rfl) (by kernel_rfl) (by kernel_rfl) (fun _ _ _ h => h) (Or.inl ⟨by rfl, ?_⟩) hcS ?_
                · rintro w6 ⟨c1, c2, c3, c4⟩
                  go_simp
                simp only [Act.put, List.setIfInBounds_toArray, List.set_cons_zero, List.set_cons_succ, List.getElem_toArray, List.getElem_cons_zero, List.getElem_cons_succ]
                refine wpAnyH_take (i := 9) (v := .int .i64 (k : Int)) rfl (by kernel_rfl) (by kernel_rfl) (by kernel_rfl) (fun _ _ _ h => h) (Or.inl ⟨by rfl, ?_⟩) hcS ?_
                · rintro w6 ⟨c1, c2, c3, c4⟩
                  go_simp
                simp only [Act.put, List.setIfInBounds_toArray, List.set_cons_zero, List.set_cons_succ, List.getElem_toArray, List.getElem_cons_zero, List.getElem_cons_succ]
                refine wpAnyH_take (i := 10) (v := .bool false) rfl (by kernel_rfl) (by kernel_rfl) (by kernel_rfl) (fun _ _ _ h => h) (Or.inl ⟨by rfl, ?_⟩) hcS ?_
                · rintro w6 ⟨c1, c2, c3, c4⟩
                  go_simp
                simp only [Act.put, List.setIfInBounds_toArray, List.set_cons_zero, List.set_cons_succ, List.getElem_toArray, List.getElem_cons_zero, List.getElem_cons_succ]
                refine wpAnyH_take (i := 11) (v := .bool false) rfl (by kernel_rfl) (by kernel_rfl) (by kernel_rfl) (fun _ _ _ h => h) (Or.inl ⟨by rfl, ?_⟩) hcS ?_
                · rintro w6 ⟨c1, c2, c3, c4⟩
                  go_simp
                simp only [Act.put, List.setIfInBounds_toArray, List.set_cons_zero, List.set_cons_succ, List.getElem_toArray, List.getElem_cons_zero, List.getElem_cons_succ]
                refine wpAnyH_take (i := 12) (v := undef) rfl (by kernel_rfl) (by kernel_rfl) (by kernel_rfl) (fun _ _ _ h => h) (Or.inr ⟨by rfl, rfl⟩) hcS ?_
                simp only [Act.put, List.setIfInBounds_toArray, List.set_cons_zero, List.set_cons_succ, List.getElem_toArray, List.getElem_cons_zero, List.getElem_cons_succ]
                refine wpAnyH_take (i := 13) (v := undef) rfl (by kernel_rfl) (by kernel_rfl) (by kernel_rfl) (fun _ _ _ h => h) (Or.inr ⟨by rfl, rfl⟩) hcS ?_
                simp only [Act.put, List.setIfInBounds_toArray, List.set_cons_zero, List.set_cons_succ, List.getElem_toArray, List.getElem_cons_zero, List.getElem_cons_succ]
                refine wpAnyH_take (i := 14) (v := undef) rfl (by kernel_rfl) (by kernel_rfl) (by kernel_rfl) (fun _ _ _ h => h) (Or.inr ⟨by rfl, rfl⟩) hcS ?_
                simp only [Act.put, List.setIfInBounds_toArray, List.set_cons_zero, List.set_cons_succ, List.getElem_toArray, List.getElem_cons_zero, List.getElem_cons_succ]
                refine wpAnyH_take (i := 15) (v := undef) rfl (by kernel_rfl) (by kernel_rfl) (by kernel_rfl) (fun _ _ _ h => h) (Or.inr ⟨by rfl, rfl⟩) hcS ?_
                simp only [Act.put, List.setIfInBounds_toArray, List.set_cons_zero, List.set_cons_succ, List.getElem_toArray, List.getElem_cons_zero, List.getElem_cons_succ]
                refine wpAnyH_take (i := 16) (v := .bool false) rfl (by kernel_rfl) (by kernel_rfl) (by kernel_rfl) (fun _ _ _ h => h) (Or.inl ⟨by rfl, ?_⟩) hcS ?_
                · rintro w6 ⟨c1, c2, c3, c4⟩
                  go_simp
                simp only [Act.put, List.setIfInBounds_toArray, List.set_cons_zero, List.set_cons_succ, List.getElem_toArray, List.getElem_cons_zero, List.getElem_cons_succ]
                refine wpAnyH_take (i := 17) (v := .bool false) rfl (by kernel_rfl) (by kernel_rfl) (by kernel_rfl) (fun _ _ _ h => h) (Or.inl ⟨by rfl, ?_⟩) hcS ?_
                · rintro w6 ⟨c1, c2, c3, c4⟩
                  go_simp
                simp only [Act.put, List.setIfInBounds_toArray, List.set_cons_zero, List.set_cons_succ, List.getElem_toArray, List.getElem_cons_zero, List.getElem_cons_succ]
                exact wpAnyH_done (by kernel_rfl) ⟨_, _, _, _, _, _, _, _, _, _, _, _, _, _, _, _, _, rfl, by (repeat (first | exact BD | exact Below.refl _ _ | refine below_step ?_ (by assumption) | refine below_alloc' ?_ _ | refine Below.drew ?_))⟩ _
              · obtain rfl : q = true := by rw [hq3]; simp [hdk]
                clear hq2 hq3 hdk
                refine wpAnyH_take (i := 0) (v := .slice (some ⟨g, off, none⟩) n c) rfl (by kernel_rfl) (by kernel_rfl) (by kernel_rfl) (fun _ _ _ h => h) (Or.inl ⟨by rfl, ?_⟩) hcS ?_
                · rintro w6 ⟨c1, c2, c3, c4⟩
                  go_simp
                simp only [Act.put, List.setIfInBounds_toArray, List.set_cons_zero, List.set_cons_succ, List.getElem_toArray, List.getElem_cons_zero]
                refine wpAnyH_take (i := 1) (v := .int .i64 (d.1 : Int)) rfl (by kernel_rfl) (by kernel_rfl) (by kernel_rfl) (fun _ _ _ h => h) (Or.inl ⟨by rfl, ?_⟩) hcS ?_
                · rintro w6 ⟨c1, c2, c3, c4⟩
                  go_simp
                simp only [Act.put, List.setIfInBounds_toArray, List.set_cons_zero, List.set_cons_succ, List.getElem_toArray, List.getElem_cons_zero, List.getElem_cons_succ]
                refine wpAnyH_take (i := 2) (v := .pointer (some ⟨g, off + d.1, none⟩)) rfl (by kernel_rfl) (by kernel_rfl) (by kernel_rfl) (fun _ _ _ h => h) (Or.inl ⟨by rfl, ?_⟩) hcS ?_
                · rintro w6 ⟨c1, c2, c3, c4⟩
                  go_simp
                simp only [Act.put, List.setIfInBounds_toArray, List.set_cons_zero, List.set_cons_succ, List.getElem_toArray, List.getElem_cons_zero, List.getElem_cons_succ]
                refine wpAnyH_take (i := 3) (v := .int .u64 (y : Int)) rfl (by kernel_rfl) (by kernel_rfl) (by kernel_rfl) (fun _ _ _ h => h) (Or.inl ⟨by rfl, ?_⟩) hcS ?_
                · rintro w6 ⟨c1, c2, c3, c4⟩
                  go_simp
                simp only [Act.put, List.setIfInBounds_toArray, List.set_cons_zero, List.set_cons_succ, List.getElem_toArray, List.getElem_cons_zero, List.getElem_cons_succ]
                refine wpAnyH_take (i := 4) (v := .int .u64 (x : Int)) rfl (by kernel_rfl) (by kernel_rfl) (by kernel_rfl) (fun _ _ _ h => h) (Or.inl ⟨by rfl, ?_⟩) hcS ?_
                · rintro w6 ⟨c1, c2, c3, c4⟩
                  go_simp
                simp only [Act.put, List.setIfInBounds_toArray, List.set_cons_zero, List.set_cons_succ, List.getElem_toArray, List.getElem_cons_zero, List.getElem_cons_succ]
                refine wpAnyH_take (i := 5) (v := .int .u64 (bits .andNot .u64 (y : Int) (x : Int))) rfl (by kernel_rfl) (by kernel_rfl) (by kernel_rfl) (fun _ _ _ h => h) (Or.inl ⟨by rfl, ?_⟩) hcS ?_
                · rintro w6 ⟨c1, c2, c3, c4⟩
                  go_simp
                simp only [Act.put, List.setIfInBounds_toArray, List.set_cons_zero, List.set_cons_succ, List.getElem_toArray, List.getElem_cons_zero, List.getElem_cons_succ]
                refine wpAnyH_take (i := 6) (v := .bool false) rfl (by kernel_rfl) (by kernel_rfl) (by kernel_rfl) (fun _ _ _ h => h) (Or.inl ⟨by rfl, ?_⟩) hcS ?_
                · rintro w6 ⟨c1, c2, c3, c4⟩
                  go_simp
                simp only [Act.put, List.setIfInBounds_toArray, List.set_cons_zero, List.set_cons_succ, List.getElem_toArray, List.getElem_cons_zero, List.getElem_cons_succ]
                refine wpAnyH_take (i := 7) (v := .bool false) rfl (by kernel_rfl) (by kernel_rfl) (by kernel_rfl) (fun _ _ _ h => h) (Or.inl ⟨by rfl, ?_⟩) hcS ?_
                · rintro w6 ⟨c1, c2, c3, c4⟩
                  go_simp
                simp only [Act.put, List.setIfInBounds_toArray, List.set_cons_zero, List.set_cons_succ, List.getElem_toArray, List.getElem_cons_zero, List.getElem_cons_succ]
                refine wpAnyH_take (i := 8) (v := .int .i64 (d.1 : Int)) rfl (by kernel_rfl) (by kernel_rfl) (by kernel_rfl) (fun _ _ _ h => h) (Or.inl ⟨by rfl, ?_⟩) hcS ?_
                · rintro w6 ⟨c1, c2, c3, c4⟩
                  go_simp
                simp only [Act.put, List.setIfInBounds_toArray, List.set_cons_zero, List.set_cons_succ, List.getElem_toArray, List.getElem_cons_zero, List.getElem_cons_succ]
                refine wpAnyH_take (i := 9) (v := .int .i64 (k : Int)) rfl (by kernel_rfl) (by kernel_rfl) (by kernel_rfl) (fun _ _ _ h => h) (Or.inl ⟨by rfl, ?_⟩) hcS ?_
                · rintro w6 ⟨c1, c2, c3, c4⟩
                  go_simp
                simp only [Act.put, List.setIfInBounds_toArray, List.set_cons_zero, List.set_cons_succ, List.getElem_toArray, List.getElem_cons_zero, List.getElem_cons_succ]
                refine wpAnyH_take (i := 10) (v := .bool true) rfl (by kernel_rfl) (by kernel_rfl) (by kernel_rfl) (fun _ _ _ h => h) (Or.inl ⟨by rfl, ?_⟩) hcS ?_
                · rintro w6 ⟨c1, c2, c3, c4⟩
                  go_simp
                simp only [Act.put, List.setIfInBounds_toArray, List.set_cons_zero, List.set_cons_succ, List.getElem_toArray, List.getElem_cons_zero, List.getElem_cons_succ]
                refine wpAnyH_take (i := 11) (v := .bool true) rfl (by kernel_rfl) (by kernel_rfl) (by kernel_rfl) (fun _ _ _ h => h) (Or.inl ⟨by rfl, ?_⟩) hcS ?_
                · rintro w6 ⟨c1, c2, c3, c4⟩
                  go_simp
                simp only [Act.put, List.setIfInBounds_toArray, List.set_cons_zero, List.set_cons_succ, List.getElem_toArray, List.getElem_cons_zero, List.getElem_cons_succ]
                refine wpAnyH_take (i := 12) (v := .slice (some ⟨g, off, none⟩) n c) rfl (by kernel_rfl) (by kernel_rfl) (by kernel_rfl) (fun _ _ _ h => h) (Or.inl ⟨by rfl, ?_⟩) hcS ?_
                · rintro w6 ⟨c1, c2, c3, c4⟩
                  go_simp
                simp only [Act.put, List.setIfInBounds_toArray, List.set_cons_zero, List.set_cons_succ, List.getElem_toArray, List.getElem_cons_zero, List.getElem_cons_succ]
                refine wpAnyH_take (i := 13) (v := .int .i64 (d.1 : Int)) rfl (by kernel_rfl) (by kernel_rfl) (by kernel_rfl) (fun _ _ _ h => h) (Or.inl ⟨by rfl, ?_⟩) hcS ?_
                · rintro w6 ⟨c1, c2, c3, c4⟩
                  go_simp
                simp only [Act.put, List.setIfInBounds_toArray, List.set_cons_zero, List.set_cons_succ, List.getElem_toArray, List.getElem_cons_zero, List.getElem_cons_succ]
                refine wpAnyH_take (i := 14) (v := .int .i64 (k : Int)) rfl (by kernel_rfl) (by kernel_rfl) (by kernel_rfl) (fun _ _ _ h => h) (Or.inl ⟨by rfl, ?_⟩) hcS ?_
                · rintro w6 ⟨c1, c2, c3, c4⟩
                  go_simp
                simp only [Act.put, List.setIfInBounds_toArray, List.set_cons_zero, List.set_cons_succ, List.getElem_toArray, List.getElem_cons_zero, List.getElem_cons_succ]
                refine wpAnyH_ready (rs := [15]) (by kernel_rfl) (by simp) ?_
                refine AllReadyH.cons rfl (fun K5 hK5 => ?_) AllReadyH.nil
                go_simp
                go_at_call 42
                refine (HLd.out _ BD).mono ?_
                rintro e w5 ⟨rfl, b5⟩
                have hcS5 : ((fun w' : World => w'.cell? ⟨w.heap.size, 0, none⟩ = some (.slice (some ⟨g, off, none⟩) n c) ∧ w'.cell? ⟨g, off + d.1, none⟩ = some (.int .u64 (y : Int)) ∧ w'.cell? ⟨W.heap.size + 1, 0, none⟩ = some (.int .u64 (x : Int)) ∧ w'.cell? ⟨W.heap.size, 0, none⟩ = some (.int .i64 (k : Int)))) w5 := ⟨cell_below hcS.1 b5, cell_below hcS.2.1 b5, cell_below hcS.2.2.1 b5, cell_below hcS.2.2.2 b5⟩
                refine hK5.out _ _ hcS5 (fun _ => ?_)
                clear hK5 K5
                refine wpAnyH_take (i := 16) (v := .bool true) rfl (by kernel_rfl) (by kernel_rfl) (by kernel_rfl) (fun _ _ _ h => h) (Or.inl ⟨by rfl, ?_⟩) hcS5 ?_
                · rintro w6 ⟨c1, c2, c3, c4⟩
                  go_simp
                simp only [Act.put, List.setIfInBounds_toArray, List.set_cons_zero, List.set_cons_succ, List.getElem_toArray, List.getElem_cons_zero, List.getElem_cons_succ]
                refine wpAnyH_take (i := 17) (v := .bool true) rfl (by kernel_rfl) (by kernel_rfl) (by kernel_rfl) (fun _ _ _ h => h) (Or.inl ⟨by rfl, ?_⟩) hcS5 ?_
                · rintro w6 ⟨c1, c2, c3, c4⟩
                  go_simp
                simp only [Act.put, List.setIfInBounds_toArray, List.set_cons_zero, List.set_cons_succ, List.getElem_toArray, List.getElem_cons_zero, List.getElem_cons_succ]
                exact wpAnyH_done (by kernel_rfl) ⟨_, _, _, _, _, _, _, _, _, _, _, _, _, _, _, _, _, rfl, by (repeat (first | exact BD | exact Below.refl _ _ | refine below_step ?_ (by assumption) | refine below_alloc' ?_ _ | refine Below.drew ?_))⟩ _
              · obtain rfl : q = false := by rw [hq3]; simp [hdk]
                clear hq2 hq3 hdk
                refine wpAnyH_take (i := 0) (v := .slice (some ⟨g, off, none⟩) n c) rfl (by kernel_rfl) (by kernel_rfl) (by kernel_rfl) (fun _ _ _ h => h) (Or.inl ⟨by rfl, ?_⟩) hcS ?_
                · rintro w6 ⟨c1, c2, c3, c4⟩
                  go_simp
                simp only [Act.put, List.setIfInBounds_toArray, List.set_cons_zero, List.set_cons_succ, List.getElem_toArray, List.getElem_cons_zero]
                refine wpAnyH_take (i := 1) (v := .int .i64 (d.1 : Int)) rfl (by kernel_rfl) (by kernel_rfl) (by kernel_rfl) (fun _ _ _ h => h) (Or.inl ⟨by rfl, ?_⟩) hcS ?_
                · rintro w6 ⟨c1, c2, c3, c4⟩
                  go_simp
                simp only [Act.put, List.setIfInBounds_toArray, List.set_cons_zero, List.set_cons_succ, List.getElem_toArray, List.getElem_cons_zero, List.getElem_cons_succ]
                refine wpAnyH_take (i := 2) (v := .pointer (some ⟨g, off + d.1, none⟩)) rfl (by kernel_rfl) (by kernel_rfl) (by kernel_rfl) (fun _ _ _ h => h) (Or.inl ⟨by rfl, ?_⟩) hcS ?_
                · rintro w6 ⟨c1, c2, c3, c4⟩
                  go_simp
                simp only [Act.put, List.setIfInBounds_toArray, List.set_cons_zero, List.set_cons_succ, List.getElem_toArray, List.getElem_cons_zero, List.getElem_cons_succ]
                refine wpAnyH_take (i := 3) (v := .int .u64 (y : Int)) rfl (by kernel_rfl) (by kernel_rfl) (by kernel_rfl) (fun _ _ _ h => h) (Or.inl ⟨by rfl, ?_⟩) hcS ?_
                · rintro w6 ⟨c1, c2, c3, c4⟩
                  go_simp
                simp only [Act.put, List.setIfInBounds_toArray, List.set_cons_zero, List.set_cons_succ, List.getElem_toArray, List.getElem_cons_zero, List.getElem_cons_succ]
                refine wpAnyH_take (i := 4) (v := .int .u64 (x : Int)) rfl (by kernel_rfl) (by kernel_rfl) (by kernel_rfl) (fun _ _ _ h => h) (Or.inl ⟨by rfl, ?_⟩) hcS ?_
                · rintro w6 ⟨c1, c2, c3, c4⟩
                  go_simp
                simp only [Act.put, List.setIfInBounds_toArray, List.set_cons_zero, List.set_cons_succ, List.getElem_toArray, List.getElem_cons_zero, List.getElem_cons_succ]
                refine wpAnyH_take (i := 5) (v := .int .u64 (bits .andNot .u64 (y : Int) (x : Int))) rfl (by kernel_rfl) (by kernel_rfl) (by kernel_rfl) (fun _ _ _ h => h) (Or.inl ⟨by rfl, ?_⟩) hcS ?_
                · rintro w6 ⟨c1, c2, c3, c4⟩
                  go_simp
                simp only [Act.put, List.setIfInBounds_toArray, List.set_cons_zero, List.set_cons_succ, List.getElem_toArray, List.getElem_cons_zero, List.getElem_cons_succ]
                refine wpAnyH_take (i := 6) (v := .bool false) rfl (by kernel_rfl) (by kernel_rfl) (by kernel_rfl) (fun _ _ _ h => h) (Or.inl ⟨by rfl, ?_⟩) hcS ?_
                · rintro w6 ⟨c1, c2, c3, c4⟩
                  go_simp
                simp only [Act.put, List.setIfInBounds_toArray, List.set_cons_zero, List.set_cons_succ, List.getElem_toArray, List.getElem_cons_zero, List.getElem_cons_succ]
                refine wpAnyH_take (i := 7) (v := .bool false) rfl (by kernel_rfl) (by kernel_rfl) (by kernel_rfl) (fun _ _ _ h => h) (Or.inl ⟨by rfl, ?_⟩) hcS ?_
                · rintro w6 ⟨c1, c2, c3, c4⟩
                  go_simp
                simp only [Act.put, List.setIfInBounds_toArray, List.set_cons_zero, List.set_cons_succ, List.getElem_toArray, List.getElem_cons_zero, List.getElem_cons_succ]
                refine wpAnyH_take (i := 8) (v := .int .i64 (d.1 : Int)) rfl (by kernel_rfl) (by kernel_rfl) (by kernel_rfl) (fun _ _ _ h => h) (Or.inl ⟨by rfl, ?_⟩) hcS ?_
                · rintro w6 ⟨c1, c2, c3, c4⟩
                  go_simp
                simp only [Act.put, List.setIfInBounds_toArray, List.set_cons_zero, List.set_cons_succ, List.getElem_toArray, List.getElem_cons_zero, List.getElem_cons_succ]
                refine wpAnyH_take (i := 9) (v := .int .i64 (k : Int)) rfl (by kernel_rfl) (by kernel_rfl) (by kernel_rfl) (fun _ _ _ h => h) (Or.inl ⟨by rfl, ?_⟩) hcS ?_
                · rintro w6 ⟨c1, c2, c3, c4⟩
                  go_simp
                simp only [Act.put, List.setIfInBounds_toArray, List.set_cons_zero, List.set_cons_succ, List.getElem_toArray, List.getElem_cons_zero, List.getElem_cons_succ]
                refine wpAnyH_take (i := 10) (v := .bool true) rfl (by kernel_rfl) (by kernel_rfl) (by kernel_rfl) (fun _ _ _ h => h) (Or.inl ⟨by rfl, ?_⟩) hcS ?_
                · rintro w6 ⟨c1, c2, c3, c4⟩
                  go_simp
                simp only [Act.put, List.setIfInBounds_toArray, List.set_cons_zero, List.set_cons_succ, List.getElem_toArray, List.getElem_cons_zero, List.getElem_cons_succ]
                refine wpAnyH_take (i := 11) (v := .bool true) rfl (by kernel_rfl) (by kernel_rfl) (by kernel_rfl) (fun _ _ _ h => h) (Or.inl ⟨by rfl, ?_⟩) hcS ?_
                · rintro w6 ⟨c1, c2, c3, c4⟩
                  go_simp
                simp only [Act.put, List.setIfInBounds_toArray, List.set_cons_zero, List.set_cons_succ, List.getElem_toArray, List.getElem_cons_zero, List.getElem_cons_succ]
                refine wpAnyH_take (i := 12) (v := .slice (some ⟨g, off, none⟩) n c) rfl (by kernel_rfl) (by kernel_rfl) (by kernel_rfl) (fun _ _ _ h => h) (Or.inl ⟨by rfl, ?_⟩) hcS ?_
                · rintro w6 ⟨c1, c2, c3, c4⟩
                  go_simp
                simp only [Act.put, List.setIfInBounds_toArray, List.set_cons_zero, List.set_cons_succ, List.getElem_toArray, List.getElem_cons_zero, List.getElem_cons_succ]
                refine wpAnyH_take (i := 13) (v := .int .i64 (d.1 : Int)) rfl (by kernel_rfl) (by kernel_rfl) (by kernel_rfl) (fun _ _ _ h => h) (Or.inl ⟨by rfl, ?_⟩) hcS ?_
                · rintro w6 ⟨c1, c2, c3, c4⟩
                  go_simp
                simp only [Act.put, List.setIfInBounds_toArray, List.set_cons_zero, List.set_cons_succ, List.getElem_toArray, List.getElem_cons_zero, List.getElem_cons_succ]
                refine wpAnyH_take (i := 14) (v := .int .i64 (k : Int)) rfl (by kernel_rfl) (by kernel_rfl) (by kernel_rfl) (fun _ _ _ h => h) (Or.inl ⟨by rfl, ?_⟩) hcS ?_
                · rintro w6 ⟨c1, c2, c3, c4⟩
                  go_simp
                simp only [Act.put, List.setIfInBounds_toArray, List.set_cons_zero, List.set_cons_succ, List.getElem_toArray, List.getElem_cons_zero, List.getElem_cons_succ]
                refine wpAnyH_ready (rs := [15]) (by kernel_rfl) (by simp) ?_
                refine AllReadyH.cons rfl (fun K5 hK5 => ?_) AllReadyH.nil
                go_simp
                go_at_call 42
                refine (HLd.out _ BD).mono ?_
                rintro e w5 ⟨rfl, b5⟩
                have hcS5 : ((fun w' : World => w'.cell? ⟨w.heap.size, 0, none⟩ = some (.slice (some ⟨g, off, none⟩) n c) ∧ w'.cell? ⟨g, off + d.1, none⟩ = some (.int .u64 (y : Int)) ∧ w'.cell? ⟨W.heap.size + 1, 0, none⟩ = some (.int .u64 (x : Int)) ∧ w'.cell? ⟨W.heap.size, 0, none⟩ = some (.int .i64 (k : Int)))) w5 := ⟨cell_below hcS.1 b5, cell_below hcS.2.1 b5, cell_below hcS.2.2.1 b5, cell_below hcS.2.2.2 b5⟩
                refine hK5.out _ _ hcS5 (fun _ => ?_)
                clear hK5 K5
                refine wpAnyH_take (i := 16) (v := .bool false) rfl (by kernel_rfl) (by kernel_rfl) (by kernel_rfl) (fun _ _ _ h => h) (Or.inl ⟨by rfl, ?_⟩) hcS5 ?_
                · rintro w6 ⟨c1, c2, c3, c4⟩
                  go_simp
                simp only [Act.put, List.setIfInBounds_toArray, List.set_cons_zero, List.set_cons_succ, List.getElem_toArray, List.getElem_cons_zero, List.getElem_cons_succ]
                refine wpAnyH_take (i := 17) (v := .bool false) rfl (by kernel_rfl) (by kernel_rfl) (by kernel_rfl) (fun _ _ _ h => h) (Or.inl ⟨by rfl, ?_⟩) hcS5 ?_
                · rintro w6 ⟨c1, c2, c3, c4⟩
                  go_simp
                simp only [Act.put, List.setIfInBounds_toArray, List.set_cons_zero, List.set_cons_succ, List.getElem_toArray, List.getElem_cons_zero, List.getElem_cons_succ]
                exact wpAnyH_done (by kernel_rfl) ⟨_, _, _, _, _, _, _, _, _, _, _, _, _, _, _, _, _, rfl, by (repeat (first | exact BD | exact Below.refl _ _ | refine below_step ?_ (by assumption) | refine below_alloc' ?_ _ | refine Below.drew ?_))⟩ _
            · rintro act W5 ⟨y28, y29, y30, y31, y32, y33, y34, y35, y36, y37, y38, y39, y40, y41, y42, y43, y44, rfl, h5⟩
              have bR5 := boxed_below bR4 h5
              have fR5 := bR5.frozen
              have cR5 := bR5.cell
              refine hK4 _ _ ?_
              clear hK4 K4 hcase hq3 HP hf hcS cX4 cU4 cC4 cd HLd
              cases q
              · gi_wp2
                exact ⟨keepsFrom_below h5, h5.mono hBW'.size, fun d' hd' => (List.mem_append.1 hd').elim (hp d') (fun e => by simp at e; subst e; simpa using hq2.symm), below_step hBW' h5⟩
              · gi_wp2
                exact ⟨(keepsFrom_below h5).trans ((KeepsOthers.setCell _ _ _).from _), ⟨⟨⟨rfl, d, by simp, by simpa using hq2.symm⟩, bR5.set _⟩, (hm4.below h5).store (fun D hD => by have := hds D hD; omega) _⟩, (below_step hBd h5).setCell (p := ⟨w.heap.size + 1, 0, none⟩) (by simp) _⟩
          case done =>
            rintro D zs W' hD hzs ⟨hp, hBW'⟩ hKD
            gi_wp2
            have hrow : rowOK up k = true := by
              unfold rowOK
              rw [hgx.out, ← HN.out, hq, Bool.true_and, List.all_eq_true]
              intro d hd
              rw [← hzs] at hd
              obtain ⟨d', hd', rfl⟩ := List.mem_map.1 hd
              exact hp d' hd'
            refine ⟨⟨k + 1, D :: ds, _, _, _, _, _, _, _, _, _, _, _, _, _, _, _, _, _, _, _, _, _, _, _, _, _, _, _, _, _, _, _, _, _, _, _, _, _, _, _, _, _, rfl, by omega, fun j hj' => ?_, (hm3.below hBW').more hdl hD hKD, fun D' hD' => ?_, boxed_below bU3 hBW', boxed_below bR3 hBW', below_step hB30 hBW'⟩, ?_⟩
            · by_cases e : j = k
              · subst e; exact hrow
              · exact hj j (by omega)
            · rcases List.mem_cons.1 hD' with rfl | hm
              · omega
              · exact hds D' hm
            · show n - ((k : Int) + 1).toNat < n - (k : Int).toNat
              omega
          case stop =>
            rintro D c' pre W' hD hpre ⟨⟨⟨⟨rfl, d, hd, hbad⟩, bR4⟩, hm4⟩, hB4⟩ hKD
            gi_wp2
            have hdm : d.1 ∈ listN x := hpre.subset (List.mem_map.2 ⟨d, hd, rfl⟩)
            refine order_end false (D :: ds) W' (hm4.more hdl hD hKD) (fun D' hD' => ?_) bR4 hB4 (order_no hkl ?_) (fun W v hc => by simp [results, Tryz.f63, go_sem, hc])
            · rcases List.mem_cons.1 hD' with rfl | hm
              · omega
              · exact hds D' hm
            · unfold rowOK
              rw [hgx.out, ← HN.out, hq, Bool.true_and]
              cases e : (listN x).all (pairOK up k)
              · rfl
              · rw [List.all_eq_true] at e
                rw [e d.1 hdm] at hbad
                cases hbad
    · obtain rfl : k = n := by omega
      have fR := bR.frozen
      have cR := bR.cell
      gi_wp2
      exact order_end true ds _ (hm.store (fun D hD => by have := hds D hD; omega) _) hds (bR.set _) (hB.setCell (p := ⟨w.heap.size + 1, 0, none⟩) (by simp) _) (order_yes (by rw [← HN.out]; exact hj)) (fun W v hc => by simp [results, Tryz.f63, go_sem, hc])

end Go.Proofs.YtglkmpglpddfdaaGreatDoor
