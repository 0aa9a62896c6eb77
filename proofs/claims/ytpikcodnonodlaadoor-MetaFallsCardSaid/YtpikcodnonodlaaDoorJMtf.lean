import Derived.Test.YtpikcodnonodlaaDoorJ05
import Derived.Test.YtpikcodnonodlaaDoorJ03
import Derived.Test.YtpikcodnonodlaaDoorJCee
import Derived.Test.YtpikcodnonodlaaDoorJ02
/- Of a claim's texts, joined: Mtf. No statement but in the last. -/
namespace Go.Proofs.YtpikcodnonodlaaDoor
open Go.RowKit
set_option linter.unusedVariables false

def PackNo10 (w : World) (e : Ending) (w' : World) : Prop := e = .returned (.tuple #[.slice none 0 0, .int .i64 1]) ∧ Below w.heap.size w w'
theorem cells_of10 {w : World} {B : Nat} {q : List Hd} (hq : q.length ≤ 1000) (h : Has w B 26 (q.map Hd.v).toArray) (he : ∀ x ∈ q, Arg w x.a x.n x.c x.l) : CellsA w (some ⟨B, 0, none⟩) q.length q.length q :=
  ⟨rfl, fun _ => ⟨B, 0, rfl, fun j u hj => by rw [h.cell, Nat.zero_add]; simpa using hj⟩, he, Nat.le_refl _, by unfold maxLen; omega, fun h => by cases h⟩
def markL : List UInt8 := [109, 101, 116, 97]
theorem freeze_mark {w : World} {B : Nat} {cs : Array Value} (h : Has w B 5 cs) (n c : Nat) : ∃ W, (convert 26 26 (.slice (some ⟨B, 0, none⟩) n c)).run Tryd.prog w = .ok (.slice (some ⟨B, 0, none⟩) n c) W ∧ W.heap.size = w.heap.size ∧ (∀ p, W.cell? p = w.cell? p) ∧ w.grownBy W (some B) := by
  have hsh : w.shape? B = some (5, cs.size) := by
    unfold Has at h
    simp [World.shape?, h]
  refine ⟨w.freeze ⟨B, cs.size, none⟩ 1, ?_, ?_, ?_, ?_⟩
  · simp [convert, run_underlying Tryd.underlying26, run_underlying Tryd.underlying5, markStringish, hsh]
  · simp [World.freeze]
  · intro p
    unfold Has at h
    by_cases hp : p.block = B
    · simp [World.freeze, World.cell?, Array.getElem?_modify, hp, h]
    · have : B ≠ p.block := fun e => hp e.symm
      simp [World.freeze, World.cell?, Array.getElem?_modify, this]
  · refine ⟨rfl, rfl, rfl, by simp [World.freeze], fun k hk hne => ?_⟩
    have : B ≠ k := fun e => hne (by rw [e])
    simp [World.freeze, Array.getElem?_modify, this]
theorem Arg.same {w W : World} {A : Option Addr} {n c : Nat} {l : List UInt8} (h : Arg w A n c l) (hs : W.heap.size = w.heap.size) (hc : ∀ p, W.cell? p = w.cell? p) : Arg W A n c l :=
  ⟨h.len, fun hx => by
    obtain ⟨g, off, e, hr⟩ := h.reads hx
    exact ⟨g, off, e, fun j u hj => (hc _).trans (hr j u hj)⟩, fun h0 a ha => by rw [hs]; exact h.old h0 a ha, h.room, h.most, h.none_⟩
theorem mark_of {w : World} {B : Nat} (h : Has w B 5 #[.int .u8 109, .int .u8 101, .int .u8 116, .int .u8 97]) : Arg w (some ⟨B, 0, none⟩) 4 4 markL := by
  refine ⟨rfl, fun _ => ⟨B, 0, rfl, fun j u hj => ?_⟩, fun _ a ha => ?_, Nat.le_refl _, by unfold maxLen; omega, fun h => by cases h⟩
  · rw [h.cell, Nat.zero_add]
    rcases j with _ | _ | _ | _ | j
    · simpa [markL, byteV] using hj
    · simpa [markL, byteV] using hj
    · simpa [markL, byteV] using hj
    · simpa [markL, byteV] using hj
    · simp [markL] at hj
  · injection ha with ha
    subst ha
    exact h.lt
theorem mPut_no (m : Mt) (w : World) (hc : ¬ checkM m) : Calls Tryd.prog 9 #[mtV m] w (PackNo10 w) := by
  obtain ⟨label, txn, root, list, high⟩ := m
  obtain ⟨W, hW, hb, hh⟩ := mbox w ⟨label, txn, root, list, high⟩
  have HC := Lib.hid (fun w1 => mCheck_any ⟨label, txn, root, list, high⟩ w1)
  rw [decide_eq_false hc] at HC
  simp only [mtV, mtC] at hW hh HC ⊢
  have m0 := hh.cell 0
  have m1 := hh.cell 1
  have m2 := hh.cell 2
  have m3 := hh.cell 3
  have m4 := hh.cell 4
  have HB := Lib.hid hb
  clear hb hh hc
  go_enter Tryd.func9, Tryd.ntmps9
  go_wp2_with (go_at_call 12; (try rw [hW]); (with_reducible refine (HC.out _).mono ?_); rintro r1 w1 ⟨rfl, b1⟩; have B1 := Lib.hid (below_step HB.out b1); clear b1)
  go_ret2
  exact ⟨rfl, B1.out⟩

set_option maxRecDepth 100000 in
set_option maxHeartbeats 16000000 in
theorem mPut_nat (lb txn rt ls hg : Nat) (w : World) (ht : Tab w) (hc : checkM ⟨lb, txn, rt, ls, hg⟩) (htx : txn < 18446744073709551616) :
    Calls Tryd.prog 9 #[mtV ⟨lb, txn, rt, ls, hg⟩] w (PackOk 5 [cellM ⟨lb, txn, rt, ls, hg⟩] w) := by
  have hmx : Tryd.prog.follows .mixedOrders = true := by kernel_rfl
  obtain ⟨a0, a1, a2, a3, a4, a5, a6, a7, a8⟩ := checkM_few hc
  simp only at a0 a1 a2 a3 a4 a5 a6 a7 a8
  obtain ⟨W, hW, hb, hh⟩ := mbox w ⟨lb, txn, rt, ls, hg⟩
  have HC := Lib.hid (fun w1 => mCheck_any ⟨lb, txn, rt, ls, hg⟩ w1)
  rw [decide_eq_true hc] at HC
  have N1 : Hid (∀ w1, Calls Tryd.prog 21 #[.int .u64 (lb : Int), .int .i64 1] w1 (Fresh w1.heap.size (numB lb 1) w1)) := Lib.hid (fun w1 => Num_fresh lb 1 w1 (by omega) (by omega) (by omega))
  have N2 : Hid (∀ w1, Calls Tryd.prog 21 #[.int .u64 (txn : Int), .int .i64 8] w1 (Fresh w1.heap.size (numB txn 8) w1)) := Lib.hid (fun w1 => Num_fresh txn 8 w1 (by omega) (by omega) (by omega))
  have N3 : Hid (∀ w1, Calls Tryd.prog 22 #[.int .i64 (rt : Int)] w1 (Fresh w1.heap.size (numB rt 2) w1)) := Lib.hid (fun w1 => mnum_any rt w1 (by omega))
  have N4 : Hid (∀ w1, Calls Tryd.prog 22 #[.int .i64 (ls : Int)] w1 (Fresh w1.heap.size (numB ls 2) w1)) := Lib.hid (fun w1 => mnum_any ls w1 (by omega))
  have N5 : Hid (∀ w1, Calls Tryd.prog 22 #[.int .i64 (hg : Int)] w1 (Fresh w1.heap.size (numB hg 2) w1)) := Lib.hid (fun w1 => mnum_any hg w1 (by omega))
  have HFL : Hid (∀ A0 c0 A1 c1 A2 c2 A3 c3 A4 c4 A5 c5, flatH [⟨A0, 4, c0, markL⟩, ⟨A1, 1, c1, numB lb 1⟩, ⟨A2, 8, c2, numB txn 8⟩, ⟨A3, 2, c3, numB rt 2⟩, ⟨A4, 2, c4, numB ls 2⟩, ⟨A5, 2, c5, numB hg 2⟩] = cellM ⟨lb, txn, rt, ls, hg⟩) := Lib.hid (fun _ _ _ _ _ _ _ _ _ _ _ _ => by simp [flatH, cellM, markL])
  have HCL : Hid ((cellM ⟨lb, txn, rt, ls, hg⟩).length = 19) := Lib.hid (cellM_len _)
  have HFI : Hid (cFits 5 [cellM ⟨lb, txn, rt, ls, hg⟩]) := Lib.hid (cellM_fits _)
  have L1 := Lib.hid (numB_len lb 1)
  have L2 := Lib.hid (numB_len txn 8)
  have L3 := Lib.hid (numB_len rt 2)
  have L4 := Lib.hid (numB_len ls 2)
  have L5 := Lib.hid (numB_len hg 2)
  generalize cellM ⟨lb, txn, rt, ls, hg⟩ = cb at HFL HCL HFI ⊢
  generalize numB lb 1 = n1 at N1 HFL L1
  generalize numB txn 8 = n2 at N2 HFL L2
  generalize numB rt 2 = n3 at N3 HFL L3
  generalize numB ls 2 = n4 at N4 HFL L4
  generalize numB hg 2 = n5 at N5 HFL L5
  have HCC := Lib.hid (fun A n c q w1 (h : CellsA w1 A n c q) h1 h2 => concatB_any A n c q w1 h h1 h2)
  have HFW : Hid (∀ A3 c3, Few [⟨A3, cb.length, c3, cb⟩]) := Lib.hid (fun A3 c3 => by
    unfold Few
    exact ⟨by simp, by intro y hy; simp only [List.mem_cons, List.mem_nil_iff, or_false] at hy; rcases hy with rfl; exact Nat.le_trans (Nat.le_of_eq HCL.out) (by decide)⟩)
  have HP : Hid (∀ A n c a m d w1, Tab w1 → CellsA w1 A n c [⟨a, m, d, cb⟩] → Few [⟨a, m, d, cb⟩] → Calls Tryd.prog 23 #[.int .u8 5, .slice A n c] w1 (PackOk 5 [cb] w1)) := Lib.hid (fun A n c a m d w1 ht h hf => cePack_yes 5 A n c [⟨a, m, d, cb⟩] w1 ht h hf HFI.out)
  have HT := Lib.hid ht
  have hw1 : IntKind.u64.wrap (lb : Int) = (lb : Int) := IntWalk.u64_in _ (by omega)
  simp only [mtV, mtC] at hW hh HC ⊢
  have m0 := hh.cell 0
  have m1 := hh.cell 1
  have m2 := hh.cell 2
  have m3 := hh.cell 3
  have m4 := hh.cell 4
  have HB := Lib.hid hb
  have HH := Lib.hid hh
  clear hb hh hc ht
  go_enter Tryd.func9, Tryd.ntmps9
  go_wp2_with (go_at_call 12; (try rw [hW]); (with_reducible refine (HC.out _).mono ?_); rintro r1 w1 ⟨rfl, b1⟩; have X1 := HH.out.below b1 HH.out.lt; have B1 := Lib.hid (below_step HB.out b1); clear b1)
  have X0 : Has w1.drew w.heap.size 24 #[.int .i64 (lb : Int), .int .u64 (txn : Int), .int .i64 (rt : Int), .int .i64 (ls : Int), .int .i64 (hg : Int)] := X1
  have B0 : Below w.heap.size w w1.drew := B1.out.drew
  clear X1 B1
  rename_i K hK
  obtain ⟨M, hM⟩ : ∃ M : Act → World → Prop, M = (fun a w' => ∃ A9 c9 u8 u9 u10 u11 u12 u13 u14 u15 u16 u17 u18 u19 u20 u21 u22 u23 u24 u25 u26 u27, a = ⟨#[(.agg #[.int .i64 (lb : Int), .int .u64 (txn : Int), .int .i64 (rt : Int), .int .i64 (ls : Int), .int .i64 (hg : Int)]), .pointer (some ⟨w.heap.size, 0, none⟩), .slice none 0 0, .int .i64 0, .slice A9 cb.length c9, (.agg #[.int .i64 (lb : Int), .int .u64 (txn : Int), .int .i64 (rt : Int), .int .i64 (ls : Int), .int .i64 (hg : Int)]), .bool true, .bool false, u8, u9, u10, u11, u12, u13, u14, u15, u16, u17, u18, u19, u20, u21, u22, u23, u24, u25, u26, u27, undef, undef, undef, undef, undef], []⟩ ∧ Arg w' A9 cb.length c9 cb ∧ Below w.heap.size w w') := ⟨_, rfl⟩
  have HMI : Hid (∀ (A9 : Option Addr) (c9 : Nat) (u8 u9 u10 u11 u12 u13 u14 u15 u16 u17 u18 u19 u20 u21 u22 u23 u24 u25 u26 u27 : Value) (w' : World), Arg w' A9 cb.length c9 cb → Below w.heap.size w w' → M ⟨#[(.agg #[.int .i64 (lb : Int), .int .u64 (txn : Int), .int .i64 (rt : Int), .int .i64 (ls : Int), .int .i64 (hg : Int)]), .pointer (some ⟨w.heap.size, 0, none⟩), .slice none 0 0, .int .i64 0, .slice A9 cb.length c9, (.agg #[.int .i64 (lb : Int), .int .u64 (txn : Int), .int .i64 (rt : Int), .int .i64 (ls : Int), .int .i64 (hg : Int)]), .bool true, .bool false, u8, u9, u10, u11, u12, u13, u14, u15, u16, u17, u18, u19, u20, u21, u22, u23, u24, u25, u26, u27, undef, undef, undef, undef, undef], []⟩ w') := Lib.hid (by
    intro A9 c9 u8 u9 u10 u11 u12 u13 u14 u15 u16 u17 u18 u19 u20 u21 u22 u23 u24 u25 u26 u27 w' g1 g2
    rw [hM]
    exact ⟨A9, c9, u8, u9, u10, u11, u12, u13, u14, u15, u16, u17, u18, u19, u20, u21, u22, u23, u24, u25, u26, u27, rfl, g1, g2⟩)
  refine wp_held (fun w' => Has w' w.heap.size 24 #[.int .i64 (lb : Int), .int .u64 (txn : Int), .int .i64 (rt : Int), .int .i64 (ls : Int), .int .i64 (hg : Int)]) M hmx ?_ ?_
  rotate_left
  · intro a z2 hm
    rw [hM] at hm
    clear HMI hM
    obtain ⟨A9, c9, u8, u9, u10, u11, u12, u13, u14, u15, u16, u17, u18, u19, u20, u21, u22, u23, u24, u25, u26, u27, rfl, r9, b9⟩ := hm
    refine hK _ _ ?_
    have R9 := Lib.hid r9
    have B9 := Lib.hid b9
    clear X0 B0 r9 b9
    obtain ⟨z3, hz3⟩ : ∃ x, z2.alloc (.cells #[.slice A9 cb.length c9] 26) = x := ⟨_, rfl⟩
    have bz : Below z2.heap.size z2 z3 := hz3 ▸ (Below.refl _ z2).alloc (Nat.le_refl _) _
    have Q3 : Hid (CellsA z3 (some ⟨z2.heap.size, 0, none⟩) 1 1 [⟨A9, cb.length, c9, cb⟩]) := Lib.hid (cells_of10 (w := z3) (B := z2.heap.size) (q := [⟨A9, cb.length, c9, cb⟩]) (by simp) (hz3 ▸ Has.made z2 26 _) (by
      intro y hy
      simp only [List.mem_cons, List.mem_nil_iff, or_false] at hy
      rcases hy with rfl
      exact R9.out.below bz))
    have B10 := Lib.hid (below_step B9.out bz)
    clear bz
    go_wp2_with (go_at_call 23; (try rw [hz3]); (with_reducible refine (HP.out _ _ _ _ _ _ _ (HT.out.below B10.out) Q3.out (HFW.out _ _)).mono ?_); rintro e w5 ⟨A6, c6, rfl, g1, g2, r5, b5⟩; have R6 := Lib.hid r5; have B6 := Lib.hid (below_step B10.out b5); clear r5 b5)
    go_ret2
    exact ⟨A6, c6, rfl, g1, g2, R6.out.low B10.out.size, B6.out⟩
  clear hM
  clear hK
  generalize w1.drew = v0 at X0 B0 ⊢
  refine wpAnyH_take (i := 2) (v := .pointer (some ⟨w.heap.size, 0, none⟩)) (lit rfl) (by kernel_rfl) (by kernel_rfl) (by kernel_rfl) (fun _ _ _ h => h) (Or.inl ⟨by rfl, ?_⟩) X0 ?_
  · intro w6 s1
    go_simp
  simp only [Act.put, List.setIfInBounds_toArray, List.set_cons_zero, List.set_cons_succ]
  refine wpAnyH_take (i := 3) (v := .int .i64 (lb : Int)) (lit rfl) (by kernel_rfl) (by kernel_rfl) (by kernel_rfl) (fun _ _ _ h => h) (Or.inl ⟨by rfl, ?_⟩) X0 ?_
  · intro w6 s1
    have d0 := s1.cell 0
    go_simp
  simp only [Act.put, List.setIfInBounds_toArray, List.set_cons_zero, List.set_cons_succ]
  refine wpAnyH_take (i := 6) (v := .pointer (some ⟨w.heap.size, 1, none⟩)) (lit rfl) (by kernel_rfl) (by kernel_rfl) (by kernel_rfl) (fun _ _ _ h => h) (Or.inl ⟨by rfl, ?_⟩) X0 ?_
  · intro w6 s1
    go_simp
  simp only [Act.put, List.setIfInBounds_toArray, List.set_cons_zero, List.set_cons_succ]
  refine wpAnyH_take (i := 7) (v := .int .u64 (txn : Int)) (lit rfl) (by kernel_rfl) (by kernel_rfl) (by kernel_rfl) (fun _ _ _ h => h) (Or.inl ⟨by rfl, ?_⟩) X0 ?_
  · intro w6 s1
    have d0 := s1.cell 1
    go_simp
  simp only [Act.put, List.setIfInBounds_toArray, List.set_cons_zero, List.set_cons_succ]
  refine wpAnyH_take (i := 9) (v := .pointer (some ⟨w.heap.size, 2, none⟩)) (lit rfl) (by kernel_rfl) (by kernel_rfl) (by kernel_rfl) (fun _ _ _ h => h) (Or.inl ⟨by rfl, ?_⟩) X0 ?_
  · intro w6 s1
    go_simp
  simp only [Act.put, List.setIfInBounds_toArray, List.set_cons_zero, List.set_cons_succ]
  refine wpAnyH_take (i := 10) (v := .int .i64 (rt : Int)) (lit rfl) (by kernel_rfl) (by kernel_rfl) (by kernel_rfl) (fun _ _ _ h => h) (Or.inl ⟨by rfl, ?_⟩) X0 ?_
  · intro w6 s1
    have d0 := s1.cell 2
    go_simp
  simp only [Act.put, List.setIfInBounds_toArray, List.set_cons_zero, List.set_cons_succ]
  refine wpAnyH_take (i := 12) (v := .pointer (some ⟨w.heap.size, 3, none⟩)) (lit rfl) (by kernel_rfl) (by kernel_rfl) (by kernel_rfl) (fun _ _ _ h => h) (Or.inl ⟨by rfl, ?_⟩) X0 ?_
  · intro w6 s1
    go_simp
  simp only [Act.put, List.setIfInBounds_toArray, List.set_cons_zero, List.set_cons_succ]
  refine wpAnyH_take (i := 13) (v := .int .i64 (ls : Int)) (lit rfl) (by kernel_rfl) (by kernel_rfl) (by kernel_rfl) (fun _ _ _ h => h) (Or.inl ⟨by rfl, ?_⟩) X0 ?_
  · intro w6 s1
    have d0 := s1.cell 3
    go_simp
  simp only [Act.put, List.setIfInBounds_toArray, List.set_cons_zero, List.set_cons_succ]
  refine wpAnyH_take (i := 15) (v := .pointer (some ⟨w.heap.size, 4, none⟩)) (lit rfl) (by kernel_rfl) (by kernel_rfl) (by kernel_rfl) (fun _ _ _ h => h) (Or.inl ⟨by rfl, ?_⟩) X0 ?_
  · intro w6 s1
    go_simp
  simp only [Act.put, List.setIfInBounds_toArray, List.set_cons_zero, List.set_cons_succ]
  refine wpAnyH_take (i := 16) (v := .int .i64 (hg : Int)) (lit rfl) (by kernel_rfl) (by kernel_rfl) (by kernel_rfl) (fun _ _ _ h => h) (Or.inl ⟨by rfl, ?_⟩) X0 ?_
  · intro w6 s1
    have d0 := s1.cell 4
    go_simp
  simp only [Act.put, List.setIfInBounds_toArray, List.set_cons_zero, List.set_cons_succ]
  refine wpAnyH_take (i := 4) (v := .int .u64 (lb : Int)) (lit rfl) (by kernel_rfl) (by kernel_rfl) (by kernel_rfl) (fun _ _ _ h => h) (Or.inl ⟨by rfl, ?_⟩) X0 ?_
  · intro w6 s1
    go_simp
  simp only [Act.put, List.setIfInBounds_toArray, List.set_cons_zero, List.set_cons_succ]
  refine wpAnyH_ready (rs := [0, 5]) (by kernel_rfl) (by simp) ?_
  refine AllReadyH.cons (lit rfl) (fun K5 hK5 => ?_) (AllReadyH.cons (lit rfl) (fun K5 hK5 => ?_) AllReadyH.nil)
  · skip
    refine step_open rfl ?_
    go_simp
    obtain ⟨v0m, hv0m⟩ : ∃ x, v0.alloc (.cells #[.int .u8 109, .int .u8 101, .int .u8 116, .int .u8 97] 5) = x := ⟨_, rfl⟩
    try rw [hv0m]
    have bv0m : Below v0.heap.size v0 v0m := hv0m ▸ (Below.refl _ v0).alloc (Nat.le_refl _) _
    have HM := hv0m ▸ Has.made v0 5 #[.int .u8 109, .int .u8 101, .int .u8 116, .int .u8 97]
    have hbm : w.heap.size < v0.heap.size := X0.lt
    replace X0 := X0.below bv0m X0.lt
    replace B0 := below_step B0 bv0m
    clear bv0m hv0m
    generalize v0.heap.size = bm at HM hbm ⊢
    refine hK5.out _ _ X0 (fun _ => ?_)
    clear hK5 K5
    refine wpAnyH_ready (rs := [1, 5]) (by kernel_rfl) (by simp) ?_
    refine AllReadyH.cons (lit rfl) (fun K5 hK5 => ?_) (AllReadyH.cons (lit rfl) (fun K5 hK5 => ?_) AllReadyH.nil)
    · skip
      obtain ⟨v0mf, hcv, hsz, hcl, hgr⟩ := freeze_mark HM 4 4
      have RM := Lib.hid ((mark_of HM).same hsz hcl)
      refine step_open rfl ?_
      go_simp
      replace X0 := X0.grown hgr (by intro e; injection e with e; omega)
      replace B0 := B0.trans (below_only hgr (by omega) B0.size)
      clear HM hcv hsz hcl hgr
      refine hK5.out _ _ X0 (fun _ => ?_)
      clear hK5 K5
      refine wpAnyH_ready (rs := [5]) (by kernel_rfl) (by simp) ?_
      refine AllReadyH.cons (lit rfl) (fun K5 hK5 => ?_) AllReadyH.nil
      refine step_open rfl ?_
      go_simp
      go_at_call 21
      (with_reducible refine (N1.out _).mono ?_)
      rintro r1 v1mf ⟨A1, c1, rfl, g1, g2, g3, b1⟩
      replace X0 := X0.below b1 X0.lt
      replace B0 := below_step B0 b1
      replace RM := Lib.hid (RM.out.below b1)
      have ln := L1.out
      simp only [ln] at g1
      try simp only [ln]
      have R1 := Lib.hid (Arg.of_row (n := 1) g3 ln.symm (by omega) g1 g2)
      clear b1 g1 g2 g3 ln
      refine hK5.out _ _ X0 (fun _ => ?_)
      clear hK5 K5
      refine wpAnyH_ready (rs := [8]) (by kernel_rfl) (by simp) ?_
      refine AllReadyH.cons (lit rfl) (fun K5 hK5 => ?_) AllReadyH.nil
      refine step_open rfl ?_
      go_simp
      go_at_call 21
      (with_reducible refine (N2.out _).mono ?_)
      rintro r2 v2mf ⟨A2, c2, rfl, g1, g2, g3, b1⟩
      replace X0 := X0.below b1 X0.lt
      replace B0 := below_step B0 b1
      replace R1 := Lib.hid (R1.out.below b1)
      replace RM := Lib.hid (RM.out.below b1)
      have ln := L2.out
      simp only [ln] at g1
      try simp only [ln]
      have R2 := Lib.hid (Arg.of_row (n := 8) g3 ln.symm (by omega) g1 g2)
      clear b1 g1 g2 g3 ln
      refine hK5.out _ _ X0 (fun _ => ?_)
      clear hK5 K5
      refine wpAnyH_ready (rs := [11]) (by kernel_rfl) (by simp) ?_
      refine AllReadyH.cons (lit rfl) (fun K5 hK5 => ?_) AllReadyH.nil
      refine step_open rfl ?_
      go_simp
      go_at_call 22
      (with_reducible refine (N3.out _).mono ?_)
      rintro r3 v3mf ⟨A3, c3, rfl, g1, g2, g3, b1⟩
      replace X0 := X0.below b1 X0.lt
      replace B0 := below_step B0 b1
      replace R1 := Lib.hid (R1.out.below b1)
      replace R2 := Lib.hid (R2.out.below b1)
      replace RM := Lib.hid (RM.out.below b1)
      have ln := L3.out
      simp only [ln] at g1
      try simp only [ln]
      have R3 := Lib.hid (Arg.of_row (n := 2) g3 ln.symm (by omega) g1 g2)
      clear b1 g1 g2 g3 ln
      refine hK5.out _ _ X0 (fun _ => ?_)
      clear hK5 K5
      refine wpAnyH_ready (rs := [14]) (by kernel_rfl) (by simp) ?_
      refine AllReadyH.cons (lit rfl) (fun K5 hK5 => ?_) AllReadyH.nil
      refine step_open rfl ?_
      go_simp
      go_at_call 22
      (with_reducible refine (N4.out _).mono ?_)
      rintro r4 v4mf ⟨A4, c4, rfl, g1, g2, g3, b1⟩
      replace X0 := X0.below b1 X0.lt
      replace B0 := below_step B0 b1
      replace R1 := Lib.hid (R1.out.below b1)
      replace R2 := Lib.hid (R2.out.below b1)
      replace R3 := Lib.hid (R3.out.below b1)
      replace RM := Lib.hid (RM.out.below b1)
      have ln := L4.out
      simp only [ln] at g1
      try simp only [ln]
      have R4 := Lib.hid (Arg.of_row (n := 2) g3 ln.symm (by omega) g1 g2)
      clear b1 g1 g2 g3 ln
      refine hK5.out _ _ X0 (fun _ => ?_)
      clear hK5 K5
      refine wpAnyH_ready (rs := [17]) (by kernel_rfl) (by simp) ?_
      refine AllReadyH.cons (lit rfl) (fun K5 hK5 => ?_) AllReadyH.nil
      refine step_open rfl ?_
      go_simp
      go_at_call 22
      (with_reducible refine (N5.out _).mono ?_)
      rintro r5 v5mf ⟨A5, c5, rfl, g1, g2, g3, b1⟩
      replace X0 := X0.below b1 X0.lt
      replace B0 := below_step B0 b1
      replace R1 := Lib.hid (R1.out.below b1)
      replace R2 := Lib.hid (R2.out.below b1)
      replace R3 := Lib.hid (R3.out.below b1)
      replace R4 := Lib.hid (R4.out.below b1)
      replace RM := Lib.hid (RM.out.below b1)
      have ln := L5.out
      simp only [ln] at g1
      try simp only [ln]
      have R5 := Lib.hid (Arg.of_row (n := 2) g3 ln.symm (by omega) g1 g2)
      clear b1 g1 g2 g3 ln
      refine hK5.out _ _ X0 (fun _ => ?_)
      clear hK5 K5
      refine wpAnyH_ready (rs := [18]) (by kernel_rfl) (by simp) ?_
      refine AllReadyH.cons (lit rfl) (fun K5 hK5 => ?_) AllReadyH.nil
      refine step_open rfl ?_
      go_simp
      obtain ⟨z1, hz1⟩ : ∃ x, v5mf.alloc (.cells #[.slice (some ⟨bm, 0, none⟩) 4 4, .slice A1 1 c1, .slice A2 8 c2, .slice A3 2 c3, .slice A4 2 c4, .slice A5 2 c5] 26) = x := ⟨_, rfl⟩
      try rw [hz1]
      have bz : Below v5mf.heap.size v5mf z1 := hz1 ▸ (Below.refl _ v5mf).alloc (Nat.le_refl _) _
      have Q1 : Hid (CellsA z1 (some ⟨v5mf.heap.size, 0, none⟩) 6 6 [⟨some ⟨bm, 0, none⟩, 4, 4, markL⟩, ⟨A1, 1, c1, n1⟩, ⟨A2, 8, c2, n2⟩, ⟨A3, 2, c3, n3⟩, ⟨A4, 2, c4, n4⟩, ⟨A5, 2, c5, n5⟩]) := Lib.hid (cells_of10 (w := z1) (B := v5mf.heap.size) (q := [⟨some ⟨bm, 0, none⟩, 4, 4, markL⟩, ⟨A1, 1, c1, n1⟩, ⟨A2, 8, c2, n2⟩, ⟨A3, 2, c3, n3⟩, ⟨A4, 2, c4, n4⟩, ⟨A5, 2, c5, n5⟩]) (by simp) (hz1 ▸ Has.made v5mf 26 _) (by
        intro y hy
        simp only [List.mem_cons, List.mem_nil_iff, or_false] at hy
        rcases hy with rfl | rfl | rfl | rfl | rfl | rfl
        · exact RM.out.below bz
        · exact R1.out.below bz
        · exact R2.out.below bz
        · exact R3.out.below bz
        · exact R4.out.below bz
        · exact R5.out.below bz
        ))
      replace X0 := X0.below bz X0.lt
      replace B0 := below_step B0 bz
      clear bz hz1 RM R1 R2 R3 R4 R5
      refine hK5.out _ _ X0 (fun _ => ?_)
      clear hK5 K5
      refine wpAnyH_ready (rs := [19]) (by kernel_rfl) (by simp) ?_
      refine AllReadyH.cons (lit rfl) (fun K5 hK5 => ?_) AllReadyH.nil
      refine step_open rfl ?_
      go_simp
      go_at_call 20
      (with_reducible refine (HCC.out _ _ _ _ _ Q1.out (by rw [HFL.out, HCL.out]; decide) (by decide)).mono ?_)
      rw [HFL.out]
      rintro r9 z2 ⟨A9, c9, rfl, g1, g2, g3, b1⟩
      replace X0 := X0.below b1 X0.lt
      replace B0 := below_step B0 b1
      have R9 := Lib.hid (Arg.of_row g3 rfl (by rw [HCL.out]; decide) g1 g2)
      clear b1 g1 g2 g3
      refine hK5.out _ _ X0 (fun _ => ?_)
      clear hK5 K5
      refine wpAnyH_take (i := 20) (v := .slice A9 cb.length c9) (lit rfl) (by kernel_rfl) (by kernel_rfl) (by kernel_rfl) (fun _ _ _ h => h) (Or.inl ⟨by rfl, ?_⟩) X0 ?_
      · intro w6 s1
        go_simp
      simp only [Act.put, List.setIfInBounds_toArray, List.set_cons_zero, List.set_cons_succ]
      refine wpAnyH_done (by kernel_rfl) ?_ _
      exact HMI.out A9 c9 _ _ _ _ _ _ _ _ _ _ _ _ _ _ _ _ _ _ _ _ _ R9.out B0
    · skip
      refine step_open rfl ?_
      go_simp
      go_at_call 21
      (with_reducible refine (N1.out _).mono ?_)
      rintro r1 v1m ⟨A1, c1, rfl, g1, g2, g3, b1⟩
      replace X0 := X0.below b1 X0.lt
      replace B0 := below_step B0 b1
      replace HM := HM.below b1 HM.lt
      have ln := L1.out
      simp only [ln] at g1
      try simp only [ln]
      have R1 := Lib.hid (Arg.of_row (n := 1) g3 ln.symm (by omega) g1 g2)
      clear b1 g1 g2 g3 ln
      refine hK5.out _ _ X0 (fun _ => ?_)
      clear hK5 K5
      refine wpAnyH_ready (rs := [1, 8]) (by kernel_rfl) (by simp) ?_
      refine AllReadyH.cons (lit rfl) (fun K5 hK5 => ?_) (AllReadyH.cons (lit rfl) (fun K5 hK5 => ?_) AllReadyH.nil)
      · skip
        obtain ⟨v1mf, hcv, hsz, hcl, hgr⟩ := freeze_mark HM 4 4
        have RM := Lib.hid ((mark_of HM).same hsz hcl)
        refine step_open rfl ?_
        go_simp
        replace X0 := X0.grown hgr (by intro e; injection e with e; omega)
        replace B0 := B0.trans (below_only hgr (by omega) B0.size)
        replace R1 := Lib.hid (R1.out.same hsz hcl)
        clear HM hcv hsz hcl hgr
        refine hK5.out _ _ X0 (fun _ => ?_)
        clear hK5 K5
        refine wpAnyH_ready (rs := [8]) (by kernel_rfl) (by simp) ?_
        refine AllReadyH.cons (lit rfl) (fun K5 hK5 => ?_) AllReadyH.nil
        refine step_open rfl ?_
        go_simp
        go_at_call 21
        (with_reducible refine (N2.out _).mono ?_)
        rintro r2 v2mf ⟨A2, c2, rfl, g1, g2, g3, b1⟩
        replace X0 := X0.below b1 X0.lt
        replace B0 := below_step B0 b1
        replace R1 := Lib.hid (R1.out.below b1)
        replace RM := Lib.hid (RM.out.below b1)
        have ln := L2.out
        simp only [ln] at g1
        try simp only [ln]
        have R2 := Lib.hid (Arg.of_row (n := 8) g3 ln.symm (by omega) g1 g2)
        clear b1 g1 g2 g3 ln
        refine hK5.out _ _ X0 (fun _ => ?_)
        clear hK5 K5
        refine wpAnyH_ready (rs := [11]) (by kernel_rfl) (by simp) ?_
        refine AllReadyH.cons (lit rfl) (fun K5 hK5 => ?_) AllReadyH.nil
        refine step_open rfl ?_
        go_simp
        go_at_call 22
        (with_reducible refine (N3.out _).mono ?_)
        rintro r3 v3mf ⟨A3, c3, rfl, g1, g2, g3, b1⟩
        replace X0 := X0.below b1 X0.lt
        replace B0 := below_step B0 b1
        replace R1 := Lib.hid (R1.out.below b1)
        replace R2 := Lib.hid (R2.out.below b1)
        replace RM := Lib.hid (RM.out.below b1)
        have ln := L3.out
        simp only [ln] at g1
        try simp only [ln]
        have R3 := Lib.hid (Arg.of_row (n := 2) g3 ln.symm (by omega) g1 g2)
        clear b1 g1 g2 g3 ln
        refine hK5.out _ _ X0 (fun _ => ?_)
        clear hK5 K5
        refine wpAnyH_ready (rs := [14]) (by kernel_rfl) (by simp) ?_
        refine AllReadyH.cons (lit rfl) (fun K5 hK5 => ?_) AllReadyH.nil
        refine step_open rfl ?_
        go_simp
        go_at_call 22
        (with_reducible refine (N4.out _).mono ?_)
        rintro r4 v4mf ⟨A4, c4, rfl, g1, g2, g3, b1⟩
        replace X0 := X0.below b1 X0.lt
        replace B0 := below_step B0 b1
        replace R1 := Lib.hid (R1.out.below b1)
        replace R2 := Lib.hid (R2.out.below b1)
        replace R3 := Lib.hid (R3.out.below b1)
        replace RM := Lib.hid (RM.out.below b1)
        have ln := L4.out
        simp only [ln] at g1
        try simp only [ln]
        have R4 := Lib.hid (Arg.of_row (n := 2) g3 ln.symm (by omega) g1 g2)
        clear b1 g1 g2 g3 ln
        refine hK5.out _ _ X0 (fun _ => ?_)
        clear hK5 K5
        refine wpAnyH_ready (rs := [17]) (by kernel_rfl) (by simp) ?_
        refine AllReadyH.cons (lit rfl) (fun K5 hK5 => ?_) AllReadyH.nil
        refine step_open rfl ?_
        go_simp
        go_at_call 22
        (with_reducible refine (N5.out _).mono ?_)
        rintro r5 v5mf ⟨A5, c5, rfl, g1, g2, g3, b1⟩
        replace X0 := X0.below b1 X0.lt
        replace B0 := below_step B0 b1
        replace R1 := Lib.hid (R1.out.below b1)
        replace R2 := Lib.hid (R2.out.below b1)
        replace R3 := Lib.hid (R3.out.below b1)
        replace R4 := Lib.hid (R4.out.below b1)
        replace RM := Lib.hid (RM.out.below b1)
        have ln := L5.out
        simp only [ln] at g1
        try simp only [ln]
        have R5 := Lib.hid (Arg.of_row (n := 2) g3 ln.symm (by omega) g1 g2)
        clear b1 g1 g2 g3 ln
        refine hK5.out _ _ X0 (fun _ => ?_)
        clear hK5 K5
        refine wpAnyH_ready (rs := [18]) (by kernel_rfl) (by simp) ?_
        refine AllReadyH.cons (lit rfl) (fun K5 hK5 => ?_) AllReadyH.nil
        refine step_open rfl ?_
        go_simp
        obtain ⟨z1, hz1⟩ : ∃ x, v5mf.alloc (.cells #[.slice (some ⟨bm, 0, none⟩) 4 4, .slice A1 1 c1, .slice A2 8 c2, .slice A3 2 c3, .slice A4 2 c4, .slice A5 2 c5] 26) = x := ⟨_, rfl⟩
        try rw [hz1]
        have bz : Below v5mf.heap.size v5mf z1 := hz1 ▸ (Below.refl _ v5mf).alloc (Nat.le_refl _) _
        have Q1 : Hid (CellsA z1 (some ⟨v5mf.heap.size, 0, none⟩) 6 6 [⟨some ⟨bm, 0, none⟩, 4, 4, markL⟩, ⟨A1, 1, c1, n1⟩, ⟨A2, 8, c2, n2⟩, ⟨A3, 2, c3, n3⟩, ⟨A4, 2, c4, n4⟩, ⟨A5, 2, c5, n5⟩]) := Lib.hid (cells_of10 (w := z1) (B := v5mf.heap.size) (q := [⟨some ⟨bm, 0, none⟩, 4, 4, markL⟩, ⟨A1, 1, c1, n1⟩, ⟨A2, 8, c2, n2⟩, ⟨A3, 2, c3, n3⟩, ⟨A4, 2, c4, n4⟩, ⟨A5, 2, c5, n5⟩]) (by simp) (hz1 ▸ Has.made v5mf 26 _) (by
          intro y hy
          simp only [List.mem_cons, List.mem_nil_iff, or_false] at hy
          rcases hy with rfl | rfl | rfl | rfl | rfl | rfl
          · exact RM.out.below bz
          · exact R1.out.below bz
          · exact R2.out.below bz
          · exact R3.out.below bz
          · exact R4.out.below bz
          · exact R5.out.below bz
          ))
        replace X0 := X0.below bz X0.lt
        replace B0 := below_step B0 bz
        clear bz hz1 RM R1 R2 R3 R4 R5
        refine hK5.out _ _ X0 (fun _ => ?_)
        clear hK5 K5
        refine wpAnyH_ready (rs := [19]) (by kernel_rfl) (by simp) ?_
        refine AllReadyH.cons (lit rfl) (fun K5 hK5 => ?_) AllReadyH.nil
        refine step_open rfl ?_
        go_simp
        go_at_call 20
        (with_reducible refine (HCC.out _ _ _ _ _ Q1.out (by rw [HFL.out, HCL.out]; decide) (by decide)).mono ?_)
        rw [HFL.out]
        rintro r9 z2 ⟨A9, c9, rfl, g1, g2, g3, b1⟩
        replace X0 := X0.below b1 X0.lt
        replace B0 := below_step B0 b1
        have R9 := Lib.hid (Arg.of_row g3 rfl (by rw [HCL.out]; decide) g1 g2)
        clear b1 g1 g2 g3
        refine hK5.out _ _ X0 (fun _ => ?_)
        clear hK5 K5
        refine wpAnyH_take (i := 20) (v := .slice A9 cb.length c9) (lit rfl) (by kernel_rfl) (by kernel_rfl) (by kernel_rfl) (fun _ _ _ h => h) (Or.inl ⟨by rfl, ?_⟩) X0 ?_
        · intro w6 s1
          go_simp
        simp only [Act.put, List.setIfInBounds_toArray, List.set_cons_zero, List.set_cons_succ]
        refine wpAnyH_done (by kernel_rfl) ?_ _
        exact HMI.out A9 c9 _ _ _ _ _ _ _ _ _ _ _ _ _ _ _ _ _ _ _ _ _ R9.out B0
      · skip
        refine step_open rfl ?_
        go_simp
        go_at_call 21
        (with_reducible refine (N2.out _).mono ?_)
        rintro r2 v2m ⟨A2, c2, rfl, g1, g2, g3, b1⟩
        replace X0 := X0.below b1 X0.lt
        replace B0 := below_step B0 b1
        replace R1 := Lib.hid (R1.out.below b1)
        replace HM := HM.below b1 HM.lt
        have ln := L2.out
        simp only [ln] at g1
        try simp only [ln]
        have R2 := Lib.hid (Arg.of_row (n := 8) g3 ln.symm (by omega) g1 g2)
        clear b1 g1 g2 g3 ln
        refine hK5.out _ _ X0 (fun _ => ?_)
        clear hK5 K5
        refine wpAnyH_ready (rs := [1, 11]) (by kernel_rfl) (by simp) ?_
        refine AllReadyH.cons (lit rfl) (fun K5 hK5 => ?_) (AllReadyH.cons (lit rfl) (fun K5 hK5 => ?_) AllReadyH.nil)
        · skip
          obtain ⟨v2mf, hcv, hsz, hcl, hgr⟩ := freeze_mark HM 4 4
          have RM := Lib.hid ((mark_of HM).same hsz hcl)
          refine step_open rfl ?_
          go_simp
          replace X0 := X0.grown hgr (by intro e; injection e with e; omega)
          replace B0 := B0.trans (below_only hgr (by omega) B0.size)
          replace R1 := Lib.hid (R1.out.same hsz hcl)
          replace R2 := Lib.hid (R2.out.same hsz hcl)
          clear HM hcv hsz hcl hgr
          refine hK5.out _ _ X0 (fun _ => ?_)
          clear hK5 K5
          refine wpAnyH_ready (rs := [11]) (by kernel_rfl) (by simp) ?_
          refine AllReadyH.cons (lit rfl) (fun K5 hK5 => ?_) AllReadyH.nil
          refine step_open rfl ?_
          go_simp
          go_at_call 22
          (with_reducible refine (N3.out _).mono ?_)
          rintro r3 v3mf ⟨A3, c3, rfl, g1, g2, g3, b1⟩
          replace X0 := X0.below b1 X0.lt
          replace B0 := below_step B0 b1
          replace R1 := Lib.hid (R1.out.below b1)
          replace R2 := Lib.hid (R2.out.below b1)
          replace RM := Lib.hid (RM.out.below b1)
          have ln := L3.out
          simp only [ln] at g1
          try simp only [ln]
          have R3 := Lib.hid (Arg.of_row (n := 2) g3 ln.symm (by omega) g1 g2)
          clear b1 g1 g2 g3 ln
          refine hK5.out _ _ X0 (fun _ => ?_)
          clear hK5 K5
          refine wpAnyH_ready (rs := [14]) (by kernel_rfl) (by simp) ?_
          refine AllReadyH.cons (lit rfl) (fun K5 hK5 => ?_) AllReadyH.nil
          refine step_open rfl ?_
          go_simp
          go_at_call 22
          (with_reducible refine (N4.out _).mono ?_)
          rintro r4 v4mf ⟨A4, c4, rfl, g1, g2, g3, b1⟩
          replace X0 := X0.below b1 X0.lt
          replace B0 := below_step B0 b1
          replace R1 := Lib.hid (R1.out.below b1)
          replace R2 := Lib.hid (R2.out.below b1)
          replace R3 := Lib.hid (R3.out.below b1)
          replace RM := Lib.hid (RM.out.below b1)
          have ln := L4.out
          simp only [ln] at g1
          try simp only [ln]
          have R4 := Lib.hid (Arg.of_row (n := 2) g3 ln.symm (by omega) g1 g2)
          clear b1 g1 g2 g3 ln
          refine hK5.out _ _ X0 (fun _ => ?_)
          clear hK5 K5
          refine wpAnyH_ready (rs := [17]) (by kernel_rfl) (by simp) ?_
          refine AllReadyH.cons (lit rfl) (fun K5 hK5 => ?_) AllReadyH.nil
          refine step_open rfl ?_
          go_simp
          go_at_call 22
          (with_reducible refine (N5.out _).mono ?_)
          rintro r5 v5mf ⟨A5, c5, rfl, g1, g2, g3, b1⟩
          replace X0 := X0.below b1 X0.lt
          replace B0 := below_step B0 b1
          replace R1 := Lib.hid (R1.out.below b1)
          replace R2 := Lib.hid (R2.out.below b1)
          replace R3 := Lib.hid (R3.out.below b1)
          replace R4 := Lib.hid (R4.out.below b1)
          replace RM := Lib.hid (RM.out.below b1)
          have ln := L5.out
          simp only [ln] at g1
          try simp only [ln]
          have R5 := Lib.hid (Arg.of_row (n := 2) g3 ln.symm (by omega) g1 g2)
          clear b1 g1 g2 g3 ln
          refine hK5.out _ _ X0 (fun _ => ?_)
          clear hK5 K5
          refine wpAnyH_ready (rs := [18]) (by kernel_rfl) (by simp) ?_
          refine AllReadyH.cons (lit rfl) (fun K5 hK5 => ?_) AllReadyH.nil
          refine step_open rfl ?_
          go_simp
          obtain ⟨z1, hz1⟩ : ∃ x, v5mf.alloc (.cells #[.slice (some ⟨bm, 0, none⟩) 4 4, .slice A1 1 c1, .slice A2 8 c2, .slice A3 2 c3, .slice A4 2 c4, .slice A5 2 c5] 26) = x := ⟨_, rfl⟩
          try rw [hz1]
          have bz : Below v5mf.heap.size v5mf z1 := hz1 ▸ (Below.refl _ v5mf).alloc (Nat.le_refl _) _
          have Q1 : Hid (CellsA z1 (some ⟨v5mf.heap.size, 0, none⟩) 6 6 [⟨some ⟨bm, 0, none⟩, 4, 4, markL⟩, ⟨A1, 1, c1, n1⟩, ⟨A2, 8, c2, n2⟩, ⟨A3, 2, c3, n3⟩, ⟨A4, 2, c4, n4⟩, ⟨A5, 2, c5, n5⟩]) := Lib.hid (cells_of10 (w := z1) (B := v5mf.heap.size) (q := [⟨some ⟨bm, 0, none⟩, 4, 4, markL⟩, ⟨A1, 1, c1, n1⟩, ⟨A2, 8, c2, n2⟩, ⟨A3, 2, c3, n3⟩, ⟨A4, 2, c4, n4⟩, ⟨A5, 2, c5, n5⟩]) (by simp) (hz1 ▸ Has.made v5mf 26 _) (by
            intro y hy
            simp only [List.mem_cons, List.mem_nil_iff, or_false] at hy
            rcases hy with rfl | rfl | rfl | rfl | rfl | rfl
            · exact RM.out.below bz
            · exact R1.out.below bz
            · exact R2.out.below bz
            · exact R3.out.below bz
            · exact R4.out.below bz
            · exact R5.out.below bz
            ))
          replace X0 := X0.below bz X0.lt
          replace B0 := below_step B0 bz
          clear bz hz1 RM R1 R2 R3 R4 R5
          refine hK5.out _ _ X0 (fun _ => ?_)
          clear hK5 K5
          refine wpAnyH_ready (rs := [19]) (by kernel_rfl) (by simp) ?_
          refine AllReadyH.cons (lit rfl) (fun K5 hK5 => ?_) AllReadyH.nil
          refine step_open rfl ?_
          go_simp
          go_at_call 20
          (with_reducible refine (HCC.out _ _ _ _ _ Q1.out (by rw [HFL.out, HCL.out]; decide) (by decide)).mono ?_)
          rw [HFL.out]
          rintro r9 z2 ⟨A9, c9, rfl, g1, g2, g3, b1⟩
          replace X0 := X0.below b1 X0.lt
          replace B0 := below_step B0 b1
          have R9 := Lib.hid (Arg.of_row g3 rfl (by rw [HCL.out]; decide) g1 g2)
          clear b1 g1 g2 g3
          refine hK5.out _ _ X0 (fun _ => ?_)
          clear hK5 K5
          refine wpAnyH_take (i := 20) (v := .slice A9 cb.length c9) (lit rfl) (by kernel_rfl) (by kernel_rfl) (by kernel_rfl) (fun _ _ _ h => h) (Or.inl ⟨by rfl, ?_⟩) X0 ?_
          · intro w6 s1
            go_simp
          simp only [Act.put, List.setIfInBounds_toArray, List.set_cons_zero, List.set_cons_succ]
          refine wpAnyH_done (by kernel_rfl) ?_ _
          exact HMI.out A9 c9 _ _ _ _ _ _ _ _ _ _ _ _ _ _ _ _ _ _ _ _ _ R9.out B0
        · skip
          refine step_open rfl ?_
          go_simp
          go_at_call 22
          (with_reducible refine (N3.out _).mono ?_)
          rintro r3 v3m ⟨A3, c3, rfl, g1, g2, g3, b1⟩
          replace X0 := X0.below b1 X0.lt
          replace B0 := below_step B0 b1
          replace R1 := Lib.hid (R1.out.below b1)
          replace R2 := Lib.hid (R2.out.below b1)
          replace HM := HM.below b1 HM.lt
          have ln := L3.out
          simp only [ln] at g1
          try simp only [ln]
          have R3 := Lib.hid (Arg.of_row (n := 2) g3 ln.symm (by omega) g1 g2)
          clear b1 g1 g2 g3 ln
          refine hK5.out _ _ X0 (fun _ => ?_)
          clear hK5 K5
          refine wpAnyH_ready (rs := [1, 14]) (by kernel_rfl) (by simp) ?_
          refine AllReadyH.cons (lit rfl) (fun K5 hK5 => ?_) (AllReadyH.cons (lit rfl) (fun K5 hK5 => ?_) AllReadyH.nil)
          · skip
            obtain ⟨v3mf, hcv, hsz, hcl, hgr⟩ := freeze_mark HM 4 4
            have RM := Lib.hid ((mark_of HM).same hsz hcl)
            refine step_open rfl ?_
            go_simp
            replace X0 := X0.grown hgr (by intro e; injection e with e; omega)
            replace B0 := B0.trans (below_only hgr (by omega) B0.size)
            replace R1 := Lib.hid (R1.out.same hsz hcl)
            replace R2 := Lib.hid (R2.out.same hsz hcl)
            replace R3 := Lib.hid (R3.out.same hsz hcl)
            clear HM hcv hsz hcl hgr
            refine hK5.out _ _ X0 (fun _ => ?_)
            clear hK5 K5
            refine wpAnyH_ready (rs := [14]) (by kernel_rfl) (by simp) ?_
            refine AllReadyH.cons (lit rfl) (fun K5 hK5 => ?_) AllReadyH.nil
            refine step_open rfl ?_
            go_simp
            go_at_call 22
            (with_reducible refine (N4.out _).mono ?_)
            rintro r4 v4mf ⟨A4, c4, rfl, g1, g2, g3, b1⟩
            replace X0 := X0.below b1 X0.lt
            replace B0 := below_step B0 b1
            replace R1 := Lib.hid (R1.out.below b1)
            replace R2 := Lib.hid (R2.out.below b1)
            replace R3 := Lib.hid (R3.out.below b1)
            replace RM := Lib.hid (RM.out.below b1)
            have ln := L4.out
            simp only [ln] at g1
            try simp only [ln]
            have R4 := Lib.hid (Arg.of_row (n := 2) g3 ln.symm (by omega) g1 g2)
            clear b1 g1 g2 g3 ln
            refine hK5.out _ _ X0 (fun _ => ?_)
            clear hK5 K5
            refine wpAnyH_ready (rs := [17]) (by kernel_rfl) (by simp) ?_
            refine AllReadyH.cons (lit rfl) (fun K5 hK5 => ?_) AllReadyH.nil
            refine step_open rfl ?_
            go_simp
            go_at_call 22
            (with_reducible refine (N5.out _).mono ?_)
            rintro r5 v5mf ⟨A5, c5, rfl, g1, g2, g3, b1⟩
            replace X0 := X0.below b1 X0.lt
            replace B0 := below_step B0 b1
            replace R1 := Lib.hid (R1.out.below b1)
            replace R2 := Lib.hid (R2.out.below b1)
            replace R3 := Lib.hid (R3.out.below b1)
            replace R4 := Lib.hid (R4.out.below b1)
            replace RM := Lib.hid (RM.out.below b1)
            have ln := L5.out
            simp only [ln] at g1
            try simp only [ln]
            have R5 := Lib.hid (Arg.of_row (n := 2) g3 ln.symm (by omega) g1 g2)
            clear b1 g1 g2 g3 ln
            refine hK5.out _ _ X0 (fun _ => ?_)
            clear hK5 K5
            refine wpAnyH_ready (rs := [18]) (by kernel_rfl) (by simp) ?_
            refine AllReadyH.cons (lit rfl) (fun K5 hK5 => ?_) AllReadyH.nil
            refine step_open rfl ?_
            go_simp
            obtain ⟨z1, hz1⟩ : ∃ x, v5mf.alloc (.cells #[.slice (some ⟨bm, 0, none⟩) 4 4, .slice A1 1 c1, .slice A2 8 c2, .slice A3 2 c3, .slice A4 2 c4, .slice A5 2 c5] 26) = x := ⟨_, rfl⟩
            try rw [hz1]
            have bz : Below v5mf.heap.size v5mf z1 := hz1 ▸ (Below.refl _ v5mf).alloc (Nat.le_refl _) _
            have Q1 : Hid (CellsA z1 (some ⟨v5mf.heap.size, 0, none⟩) 6 6 [⟨some ⟨bm, 0, none⟩, 4, 4, markL⟩, ⟨A1, 1, c1, n1⟩, ⟨A2, 8, c2, n2⟩, ⟨A3, 2, c3, n3⟩, ⟨A4, 2, c4, n4⟩, ⟨A5, 2, c5, n5⟩]) := Lib.hid (cells_of10 (w := z1) (B := v5mf.heap.size) (q := [⟨some ⟨bm, 0, none⟩, 4, 4, markL⟩, ⟨A1, 1, c1, n1⟩, ⟨A2, 8, c2, n2⟩, ⟨A3, 2, c3, n3⟩, ⟨A4, 2, c4, n4⟩, ⟨A5, 2, c5, n5⟩]) (by simp) (hz1 ▸ Has.made v5mf 26 _) (by
              intro y hy
              simp only [List.mem_cons, List.mem_nil_iff, or_false] at hy
              rcases hy with rfl | rfl | rfl | rfl | rfl | rfl
              · exact RM.out.below bz
              · exact R1.out.below bz
              · exact R2.out.below bz
              · exact R3.out.below bz
              · exact R4.out.below bz
              · exact R5.out.below bz
              ))
            replace X0 := X0.below bz X0.lt
            replace B0 := below_step B0 bz
            clear bz hz1 RM R1 R2 R3 R4 R5
            refine hK5.out _ _ X0 (fun _ => ?_)
            clear hK5 K5
            refine wpAnyH_ready (rs := [19]) (by kernel_rfl) (by simp) ?_
            refine AllReadyH.cons (lit rfl) (fun K5 hK5 => ?_) AllReadyH.nil
            refine step_open rfl ?_
            go_simp
            go_at_call 20
            (with_reducible refine (HCC.out _ _ _ _ _ Q1.out (by rw [HFL.out, HCL.out]; decide) (by decide)).mono ?_)
            rw [HFL.out]
            rintro r9 z2 ⟨A9, c9, rfl, g1, g2, g3, b1⟩
            replace X0 := X0.below b1 X0.lt
            replace B0 := below_step B0 b1
            have R9 := Lib.hid (Arg.of_row g3 rfl (by rw [HCL.out]; decide) g1 g2)
            clear b1 g1 g2 g3
            refine hK5.out _ _ X0 (fun _ => ?_)
            clear hK5 K5
            refine wpAnyH_take (i := 20) (v := .slice A9 cb.length c9) (lit rfl) (by kernel_rfl) (by kernel_rfl) (by kernel_rfl) (fun _ _ _ h => h) (Or.inl ⟨by rfl, ?_⟩) X0 ?_
            · intro w6 s1
              go_simp
            simp only [Act.put, List.setIfInBounds_toArray, List.set_cons_zero, List.set_cons_succ]
            refine wpAnyH_done (by kernel_rfl) ?_ _
            exact HMI.out A9 c9 _ _ _ _ _ _ _ _ _ _ _ _ _ _ _ _ _ _ _ _ _ R9.out B0
          · skip
            refine step_open rfl ?_
            go_simp
            go_at_call 22
            (with_reducible refine (N4.out _).mono ?_)
            rintro r4 v4m ⟨A4, c4, rfl, g1, g2, g3, b1⟩
            replace X0 := X0.below b1 X0.lt
            replace B0 := below_step B0 b1
            replace R1 := Lib.hid (R1.out.below b1)
            replace R2 := Lib.hid (R2.out.below b1)
            replace R3 := Lib.hid (R3.out.below b1)
            replace HM := HM.below b1 HM.lt
            have ln := L4.out
            simp only [ln] at g1
            try simp only [ln]
            have R4 := Lib.hid (Arg.of_row (n := 2) g3 ln.symm (by omega) g1 g2)
            clear b1 g1 g2 g3 ln
            refine hK5.out _ _ X0 (fun _ => ?_)
            clear hK5 K5
            refine wpAnyH_ready (rs := [1, 17]) (by kernel_rfl) (by simp) ?_
            refine AllReadyH.cons (lit rfl) (fun K5 hK5 => ?_) (AllReadyH.cons (lit rfl) (fun K5 hK5 => ?_) AllReadyH.nil)
            · skip
              obtain ⟨v4mf, hcv, hsz, hcl, hgr⟩ := freeze_mark HM 4 4
              have RM := Lib.hid ((mark_of HM).same hsz hcl)
              refine step_open rfl ?_
              go_simp
              replace X0 := X0.grown hgr (by intro e; injection e with e; omega)
              replace B0 := B0.trans (below_only hgr (by omega) B0.size)
              replace R1 := Lib.hid (R1.out.same hsz hcl)
              replace R2 := Lib.hid (R2.out.same hsz hcl)
              replace R3 := Lib.hid (R3.out.same hsz hcl)
              replace R4 := Lib.hid (R4.out.same hsz hcl)
              clear HM hcv hsz hcl hgr
              refine hK5.out _ _ X0 (fun _ => ?_)
              clear hK5 K5
              refine wpAnyH_ready (rs := [17]) (by kernel_rfl) (by simp) ?_
              refine AllReadyH.cons (lit rfl) (fun K5 hK5 => ?_) AllReadyH.nil
              refine step_open rfl ?_
              go_simp
              go_at_call 22
              (with_reducible refine (N5.out _).mono ?_)
              rintro r5 v5mf ⟨A5, c5, rfl, g1, g2, g3, b1⟩
              replace X0 := X0.below b1 X0.lt
              replace B0 := below_step B0 b1
              replace R1 := Lib.hid (R1.out.below b1)
              replace R2 := Lib.hid (R2.out.below b1)
              replace R3 := Lib.hid (R3.out.below b1)
              replace R4 := Lib.hid (R4.out.below b1)
              replace RM := Lib.hid (RM.out.below b1)
              have ln := L5.out
              simp only [ln] at g1
              try simp only [ln]
              have R5 := Lib.hid (Arg.of_row (n := 2) g3 ln.symm (by omega) g1 g2)
              clear b1 g1 g2 g3 ln
              refine hK5.out _ _ X0 (fun _ => ?_)
              clear hK5 K5
              refine wpAnyH_ready (rs := [18]) (by kernel_rfl) (by simp) ?_
              refine AllReadyH.cons (lit rfl) (fun K5 hK5 => ?_) AllReadyH.nil
              refine step_open rfl ?_
              go_simp
              obtain ⟨z1, hz1⟩ : ∃ x, v5mf.alloc (.cells #[.slice (some ⟨bm, 0, none⟩) 4 4, .slice A1 1 c1, .slice A2 8 c2, .slice A3 2 c3, .slice A4 2 c4, .slice A5 2 c5] 26) = x := ⟨_, rfl⟩
              try rw [hz1]
              have bz : Below v5mf.heap.size v5mf z1 := hz1 ▸ (Below.refl _ v5mf).alloc (Nat.le_refl _) _
              have Q1 : Hid (CellsA z1 (some ⟨v5mf.heap.size, 0, none⟩) 6 6 [⟨some ⟨bm, 0, none⟩, 4, 4, markL⟩, ⟨A1, 1, c1, n1⟩, ⟨A2, 8, c2, n2⟩, ⟨A3, 2, c3, n3⟩, ⟨A4, 2, c4, n4⟩, ⟨A5, 2, c5, n5⟩]) := Lib.hid (cells_of10 (w := z1) (B := v5mf.heap.size) (q := [⟨some ⟨bm, 0, none⟩, 4, 4, markL⟩, ⟨A1, 1, c1, n1⟩, ⟨A2, 8, c2, n2⟩, ⟨A3, 2, c3, n3⟩, ⟨A4, 2, c4, n4⟩, ⟨A5, 2, c5, n5⟩]) (by simp) (hz1 ▸ Has.made v5mf 26 _) (by
                intro y hy
                simp only [List.mem_cons, List.mem_nil_iff, or_false] at hy
                rcases hy with rfl | rfl | rfl | rfl | rfl | rfl
                · exact RM.out.below bz
                · exact R1.out.below bz
                · exact R2.out.below bz
                · exact R3.out.below bz
                · exact R4.out.below bz
                · exact R5.out.below bz
                ))
              replace X0 := X0.below bz X0.lt
              replace B0 := below_step B0 bz
              clear bz hz1 RM R1 R2 R3 R4 R5
              refine hK5.out _ _ X0 (fun _ => ?_)
              clear hK5 K5
              refine wpAnyH_ready (rs := [19]) (by kernel_rfl) (by simp) ?_
              refine AllReadyH.cons (lit rfl) (fun K5 hK5 => ?_) AllReadyH.nil
              refine step_open rfl ?_
              go_simp
              go_at_call 20
              (with_reducible refine (HCC.out _ _ _ _ _ Q1.out (by rw [HFL.out, HCL.out]; decide) (by decide)).mono ?_)
              rw [HFL.out]
              rintro r9 z2 ⟨A9, c9, rfl, g1, g2, g3, b1⟩
              replace X0 := X0.below b1 X0.lt
              replace B0 := below_step B0 b1
              have R9 := Lib.hid (Arg.of_row g3 rfl (by rw [HCL.out]; decide) g1 g2)
              clear b1 g1 g2 g3
              refine hK5.out _ _ X0 (fun _ => ?_)
              clear hK5 K5
              refine wpAnyH_take (i := 20) (v := .slice A9 cb.length c9) (lit rfl) (by kernel_rfl) (by kernel_rfl) (by kernel_rfl) (fun _ _ _ h => h) (Or.inl ⟨by rfl, ?_⟩) X0 ?_
              · intro w6 s1
                go_simp
              simp only [Act.put, List.setIfInBounds_toArray, List.set_cons_zero, List.set_cons_succ]
              refine wpAnyH_done (by kernel_rfl) ?_ _
              exact HMI.out A9 c9 _ _ _ _ _ _ _ _ _ _ _ _ _ _ _ _ _ _ _ _ _ R9.out B0
            · skip
              refine step_open rfl ?_
              go_simp
              go_at_call 22
              (with_reducible refine (N5.out _).mono ?_)
              rintro r5 v5m ⟨A5, c5, rfl, g1, g2, g3, b1⟩
              replace X0 := X0.below b1 X0.lt
              replace B0 := below_step B0 b1
              replace R1 := Lib.hid (R1.out.below b1)
              replace R2 := Lib.hid (R2.out.below b1)
              replace R3 := Lib.hid (R3.out.below b1)
              replace R4 := Lib.hid (R4.out.below b1)
              replace HM := HM.below b1 HM.lt
              have ln := L5.out
              simp only [ln] at g1
              try simp only [ln]
              have R5 := Lib.hid (Arg.of_row (n := 2) g3 ln.symm (by omega) g1 g2)
              clear b1 g1 g2 g3 ln
              refine hK5.out _ _ X0 (fun _ => ?_)
              clear hK5 K5
              refine wpAnyH_ready (rs := [1]) (by kernel_rfl) (by simp) ?_
              refine AllReadyH.cons (lit rfl) (fun K5 hK5 => ?_) AllReadyH.nil
              obtain ⟨v5mf, hcv, hsz, hcl, hgr⟩ := freeze_mark HM 4 4
              have RM := Lib.hid ((mark_of HM).same hsz hcl)
              refine step_open rfl ?_
              go_simp
              replace X0 := X0.grown hgr (by intro e; injection e with e; omega)
              replace B0 := B0.trans (below_only hgr (by omega) B0.size)
              replace R1 := Lib.hid (R1.out.same hsz hcl)
              replace R2 := Lib.hid (R2.out.same hsz hcl)
              replace R3 := Lib.hid (R3.out.same hsz hcl)
              replace R4 := Lib.hid (R4.out.same hsz hcl)
              replace R5 := Lib.hid (R5.out.same hsz hcl)
              clear HM hcv hsz hcl hgr
              refine hK5.out _ _ X0 (fun _ => ?_)
              clear hK5 K5
              refine wpAnyH_ready (rs := [18]) (by kernel_rfl) (by simp) ?_
              refine AllReadyH.cons (lit rfl) (fun K5 hK5 => ?_) AllReadyH.nil
              refine step_open rfl ?_
              go_simp
              obtain ⟨z1, hz1⟩ : ∃ x, v5mf.alloc (.cells #[.slice (some ⟨bm, 0, none⟩) 4 4, .slice A1 1 c1, .slice A2 8 c2, .slice A3 2 c3, .slice A4 2 c4, .slice A5 2 c5] 26) = x := ⟨_, rfl⟩
              try rw [hz1]
              have bz : Below v5mf.heap.size v5mf z1 := hz1 ▸ (Below.refl _ v5mf).alloc (Nat.le_refl _) _
              have Q1 : Hid (CellsA z1 (some ⟨v5mf.heap.size, 0, none⟩) 6 6 [⟨some ⟨bm, 0, none⟩, 4, 4, markL⟩, ⟨A1, 1, c1, n1⟩, ⟨A2, 8, c2, n2⟩, ⟨A3, 2, c3, n3⟩, ⟨A4, 2, c4, n4⟩, ⟨A5, 2, c5, n5⟩]) := Lib.hid (cells_of10 (w := z1) (B := v5mf.heap.size) (q := [⟨some ⟨bm, 0, none⟩, 4, 4, markL⟩, ⟨A1, 1, c1, n1⟩, ⟨A2, 8, c2, n2⟩, ⟨A3, 2, c3, n3⟩, ⟨A4, 2, c4, n4⟩, ⟨A5, 2, c5, n5⟩]) (by simp) (hz1 ▸ Has.made v5mf 26 _) (by
                intro y hy
                simp only [List.mem_cons, List.mem_nil_iff, or_false] at hy
                rcases hy with rfl | rfl | rfl | rfl | rfl | rfl
                · exact RM.out.below bz
                · exact R1.out.below bz
                · exact R2.out.below bz
                · exact R3.out.below bz
                · exact R4.out.below bz
                · exact R5.out.below bz
                ))
              replace X0 := X0.below bz X0.lt
              replace B0 := below_step B0 bz
              clear bz hz1 RM R1 R2 R3 R4 R5
              refine hK5.out _ _ X0 (fun _ => ?_)
              clear hK5 K5
              refine wpAnyH_ready (rs := [19]) (by kernel_rfl) (by simp) ?_
              refine AllReadyH.cons (lit rfl) (fun K5 hK5 => ?_) AllReadyH.nil
              refine step_open rfl ?_
              go_simp
              go_at_call 20
              (with_reducible refine (HCC.out _ _ _ _ _ Q1.out (by rw [HFL.out, HCL.out]; decide) (by decide)).mono ?_)
              rw [HFL.out]
              rintro r9 z2 ⟨A9, c9, rfl, g1, g2, g3, b1⟩
              replace X0 := X0.below b1 X0.lt
              replace B0 := below_step B0 b1
              have R9 := Lib.hid (Arg.of_row g3 rfl (by rw [HCL.out]; decide) g1 g2)
              clear b1 g1 g2 g3
              refine hK5.out _ _ X0 (fun _ => ?_)
              clear hK5 K5
              refine wpAnyH_take (i := 20) (v := .slice A9 cb.length c9) (lit rfl) (by kernel_rfl) (by kernel_rfl) (by kernel_rfl) (fun _ _ _ h => h) (Or.inl ⟨by rfl, ?_⟩) X0 ?_
              · intro w6 s1
                go_simp
              simp only [Act.put, List.setIfInBounds_toArray, List.set_cons_zero, List.set_cons_succ]
              refine wpAnyH_done (by kernel_rfl) ?_ _
              exact HMI.out A9 c9 _ _ _ _ _ _ _ _ _ _ _ _ _ _ _ _ _ _ _ _ _ R9.out B0
  · skip
    refine step_open rfl ?_
    go_simp
    go_at_call 21
    (with_reducible refine (N1.out _).mono ?_)
    rintro r1 v1 ⟨A1, c1, rfl, g1, g2, g3, b1⟩
    replace X0 := X0.below b1 X0.lt
    replace B0 := below_step B0 b1
    have ln := L1.out
    simp only [ln] at g1
    try simp only [ln]
    have R1 := Lib.hid (Arg.of_row (n := 1) g3 ln.symm (by omega) g1 g2)
    clear b1 g1 g2 g3 ln
    refine hK5.out _ _ X0 (fun _ => ?_)
    clear hK5 K5
    refine wpAnyH_ready (rs := [0, 8]) (by kernel_rfl) (by simp) ?_
    refine AllReadyH.cons (lit rfl) (fun K5 hK5 => ?_) (AllReadyH.cons (lit rfl) (fun K5 hK5 => ?_) AllReadyH.nil)
    · skip
      refine step_open rfl ?_
      go_simp
      obtain ⟨v1m, hv1m⟩ : ∃ x, v1.alloc (.cells #[.int .u8 109, .int .u8 101, .int .u8 116, .int .u8 97] 5) = x := ⟨_, rfl⟩
      try rw [hv1m]
      have bv1m : Below v1.heap.size v1 v1m := hv1m ▸ (Below.refl _ v1).alloc (Nat.le_refl _) _
      have HM := hv1m ▸ Has.made v1 5 #[.int .u8 109, .int .u8 101, .int .u8 116, .int .u8 97]
      have hbm : w.heap.size < v1.heap.size := X0.lt
      replace X0 := X0.below bv1m X0.lt
      replace B0 := below_step B0 bv1m
      replace R1 := Lib.hid (R1.out.below bv1m)
      clear bv1m hv1m
      generalize v1.heap.size = bm at HM hbm ⊢
      refine hK5.out _ _ X0 (fun _ => ?_)
      clear hK5 K5
      refine wpAnyH_ready (rs := [1, 8]) (by kernel_rfl) (by simp) ?_
      refine AllReadyH.cons (lit rfl) (fun K5 hK5 => ?_) (AllReadyH.cons (lit rfl) (fun K5 hK5 => ?_) AllReadyH.nil)
      · skip
        obtain ⟨v1mf, hcv, hsz, hcl, hgr⟩ := freeze_mark HM 4 4
        have RM := Lib.hid ((mark_of HM).same hsz hcl)
        refine step_open rfl ?_
        go_simp
        replace X0 := X0.grown hgr (by intro e; injection e with e; omega)
        replace B0 := B0.trans (below_only hgr (by omega) B0.size)
        replace R1 := Lib.hid (R1.out.same hsz hcl)
        clear HM hcv hsz hcl hgr
        refine hK5.out _ _ X0 (fun _ => ?_)
        clear hK5 K5
        refine wpAnyH_ready (rs := [8]) (by kernel_rfl) (by simp) ?_
        refine AllReadyH.cons (lit rfl) (fun K5 hK5 => ?_) AllReadyH.nil
        refine step_open rfl ?_
        go_simp
        go_at_call 21
        (with_reducible refine (N2.out _).mono ?_)
        rintro r2 v2mf ⟨A2, c2, rfl, g1, g2, g3, b1⟩
        replace X0 := X0.below b1 X0.lt
        replace B0 := below_step B0 b1
        replace R1 := Lib.hid (R1.out.below b1)
        replace RM := Lib.hid (RM.out.below b1)
        have ln := L2.out
        simp only [ln] at g1
        try simp only [ln]
        have R2 := Lib.hid (Arg.of_row (n := 8) g3 ln.symm (by omega) g1 g2)
        clear b1 g1 g2 g3 ln
        refine hK5.out _ _ X0 (fun _ => ?_)
        clear hK5 K5
        refine wpAnyH_ready (rs := [11]) (by kernel_rfl) (by simp) ?_
        refine AllReadyH.cons (lit rfl) (fun K5 hK5 => ?_) AllReadyH.nil
        refine step_open rfl ?_
        go_simp
        go_at_call 22
        (with_reducible refine (N3.out _).mono ?_)
        rintro r3 v3mf ⟨A3, c3, rfl, g1, g2, g3, b1⟩
        replace X0 := X0.below b1 X0.lt
        replace B0 := below_step B0 b1
        replace R1 := Lib.hid (R1.out.below b1)
        replace R2 := Lib.hid (R2.out.below b1)
        replace RM := Lib.hid (RM.out.below b1)
        have ln := L3.out
        simp only [ln] at g1
        try simp only [ln]
        have R3 := Lib.hid (Arg.of_row (n := 2) g3 ln.symm (by omega) g1 g2)
        clear b1 g1 g2 g3 ln
        refine hK5.out _ _ X0 (fun _ => ?_)
        clear hK5 K5
        refine wpAnyH_ready (rs := [14]) (by kernel_rfl) (by simp) ?_
        refine AllReadyH.cons (lit rfl) (fun K5 hK5 => ?_) AllReadyH.nil
        refine step_open rfl ?_
        go_simp
        go_at_call 22
        (with_reducible refine (N4.out _).mono ?_)
        rintro r4 v4mf ⟨A4, c4, rfl, g1, g2, g3, b1⟩
        replace X0 := X0.below b1 X0.lt
        replace B0 := below_step B0 b1
        replace R1 := Lib.hid (R1.out.below b1)
        replace R2 := Lib.hid (R2.out.below b1)
        replace R3 := Lib.hid (R3.out.below b1)
        replace RM := Lib.hid (RM.out.below b1)
        have ln := L4.out
        simp only [ln] at g1
        try simp only [ln]
        have R4 := Lib.hid (Arg.of_row (n := 2) g3 ln.symm (by omega) g1 g2)
        clear b1 g1 g2 g3 ln
        refine hK5.out _ _ X0 (fun _ => ?_)
        clear hK5 K5
        refine wpAnyH_ready (rs := [17]) (by kernel_rfl) (by simp) ?_
        refine AllReadyH.cons (lit rfl) (fun K5 hK5 => ?_) AllReadyH.nil
        refine step_open rfl ?_
        go_simp
        go_at_call 22
        (with_reducible refine (N5.out _).mono ?_)
        rintro r5 v5mf ⟨A5, c5, rfl, g1, g2, g3, b1⟩
        replace X0 := X0.below b1 X0.lt
        replace B0 := below_step B0 b1
        replace R1 := Lib.hid (R1.out.below b1)
        replace R2 := Lib.hid (R2.out.below b1)
        replace R3 := Lib.hid (R3.out.below b1)
        replace R4 := Lib.hid (R4.out.below b1)
        replace RM := Lib.hid (RM.out.below b1)
        have ln := L5.out
        simp only [ln] at g1
        try simp only [ln]
        have R5 := Lib.hid (Arg.of_row (n := 2) g3 ln.symm (by omega) g1 g2)
        clear b1 g1 g2 g3 ln
        refine hK5.out _ _ X0 (fun _ => ?_)
        clear hK5 K5
        refine wpAnyH_ready (rs := [18]) (by kernel_rfl) (by simp) ?_
        refine AllReadyH.cons (lit rfl) (fun K5 hK5 => ?_) AllReadyH.nil
        refine step_open rfl ?_
        go_simp
        obtain ⟨z1, hz1⟩ : ∃ x, v5mf.alloc (.cells #[.slice (some ⟨bm, 0, none⟩) 4 4, .slice A1 1 c1, .slice A2 8 c2, .slice A3 2 c3, .slice A4 2 c4, .slice A5 2 c5] 26) = x := ⟨_, rfl⟩
        try rw [hz1]
        have bz : Below v5mf.heap.size v5mf z1 := hz1 ▸ (Below.refl _ v5mf).alloc (Nat.le_refl _) _
        have Q1 : Hid (CellsA z1 (some ⟨v5mf.heap.size, 0, none⟩) 6 6 [⟨some ⟨bm, 0, none⟩, 4, 4, markL⟩, ⟨A1, 1, c1, n1⟩, ⟨A2, 8, c2, n2⟩, ⟨A3, 2, c3, n3⟩, ⟨A4, 2, c4, n4⟩, ⟨A5, 2, c5, n5⟩]) := Lib.hid (cells_of10 (w := z1) (B := v5mf.heap.size) (q := [⟨some ⟨bm, 0, none⟩, 4, 4, markL⟩, ⟨A1, 1, c1, n1⟩, ⟨A2, 8, c2, n2⟩, ⟨A3, 2, c3, n3⟩, ⟨A4, 2, c4, n4⟩, ⟨A5, 2, c5, n5⟩]) (by simp) (hz1 ▸ Has.made v5mf 26 _) (by
          intro y hy
          simp only [List.mem_cons, List.mem_nil_iff, or_false] at hy
          rcases hy with rfl | rfl | rfl | rfl | rfl | rfl
          · exact RM.out.below bz
          · exact R1.out.below bz
          · exact R2.out.below bz
          · exact R3.out.below bz
          · exact R4.out.below bz
          · exact R5.out.below bz
          ))
        replace X0 := X0.below bz X0.lt
        replace B0 := below_step B0 bz
        clear bz hz1 RM R1 R2 R3 R4 R5
        refine hK5.out _ _ X0 (fun _ => ?_)
        clear hK5 K5
        refine wpAnyH_ready (rs := [19]) (by kernel_rfl) (by simp) ?_
        refine AllReadyH.cons (lit rfl) (fun K5 hK5 => ?_) AllReadyH.nil
        refine step_open rfl ?_
        go_simp
        go_at_call 20
        (with_reducible refine (HCC.out _ _ _ _ _ Q1.out (by rw [HFL.out, HCL.out]; decide) (by decide)).mono ?_)
        rw [HFL.out]
        rintro r9 z2 ⟨A9, c9, rfl, g1, g2, g3, b1⟩
        replace X0 := X0.below b1 X0.lt
        replace B0 := below_step B0 b1
        have R9 := Lib.hid (Arg.of_row g3 rfl (by rw [HCL.out]; decide) g1 g2)
        clear b1 g1 g2 g3
        refine hK5.out _ _ X0 (fun _ => ?_)
        clear hK5 K5
        refine wpAnyH_take (i := 20) (v := .slice A9 cb.length c9) (lit rfl) (by kernel_rfl) (by kernel_rfl) (by kernel_rfl) (fun _ _ _ h => h) (Or.inl ⟨by rfl, ?_⟩) X0 ?_
        · intro w6 s1
          go_simp
        simp only [Act.put, List.setIfInBounds_toArray, List.set_cons_zero, List.set_cons_succ]
        refine wpAnyH_done (by kernel_rfl) ?_ _
        exact HMI.out A9 c9 _ _ _ _ _ _ _ _ _ _ _ _ _ _ _ _ _ _ _ _ _ R9.out B0
      · skip
        refine step_open rfl ?_
        go_simp
        go_at_call 21
        (with_reducible refine (N2.out _).mono ?_)
        rintro r2 v2m ⟨A2, c2, rfl, g1, g2, g3, b1⟩
        replace X0 := X0.below b1 X0.lt
        replace B0 := below_step B0 b1
        replace R1 := Lib.hid (R1.out.below b1)
        replace HM := HM.below b1 HM.lt
        have ln := L2.out
        simp only [ln] at g1
        try simp only [ln]
        have R2 := Lib.hid (Arg.of_row (n := 8) g3 ln.symm (by omega) g1 g2)
        clear b1 g1 g2 g3 ln
        refine hK5.out _ _ X0 (fun _ => ?_)
        clear hK5 K5
        refine wpAnyH_ready (rs := [1, 11]) (by kernel_rfl) (by simp) ?_
        refine AllReadyH.cons (lit rfl) (fun K5 hK5 => ?_) (AllReadyH.cons (lit rfl) (fun K5 hK5 => ?_) AllReadyH.nil)
        · skip
          obtain ⟨v2mf, hcv, hsz, hcl, hgr⟩ := freeze_mark HM 4 4
          have RM := Lib.hid ((mark_of HM).same hsz hcl)
          refine step_open rfl ?_
          go_simp
          replace X0 := X0.grown hgr (by intro e; injection e with e; omega)
          replace B0 := B0.trans (below_only hgr (by omega) B0.size)
          replace R1 := Lib.hid (R1.out.same hsz hcl)
          replace R2 := Lib.hid (R2.out.same hsz hcl)
          clear HM hcv hsz hcl hgr
          refine hK5.out _ _ X0 (fun _ => ?_)
          clear hK5 K5
          refine wpAnyH_ready (rs := [11]) (by kernel_rfl) (by simp) ?_
          refine AllReadyH.cons (lit rfl) (fun K5 hK5 => ?_) AllReadyH.nil
          refine step_open rfl ?_
          go_simp
          go_at_call 22
          (with_reducible refine (N3.out _).mono ?_)
          rintro r3 v3mf ⟨A3, c3, rfl, g1, g2, g3, b1⟩
          replace X0 := X0.below b1 X0.lt
          replace B0 := below_step B0 b1
          replace R1 := Lib.hid (R1.out.below b1)
          replace R2 := Lib.hid (R2.out.below b1)
          replace RM := Lib.hid (RM.out.below b1)
          have ln := L3.out
          simp only [ln] at g1
          try simp only [ln]
          have R3 := Lib.hid (Arg.of_row (n := 2) g3 ln.symm (by omega) g1 g2)
          clear b1 g1 g2 g3 ln
          refine hK5.out _ _ X0 (fun _ => ?_)
          clear hK5 K5
          refine wpAnyH_ready (rs := [14]) (by kernel_rfl) (by simp) ?_
          refine AllReadyH.cons (lit rfl) (fun K5 hK5 => ?_) AllReadyH.nil
          refine step_open rfl ?_
          go_simp
          go_at_call 22
          (with_reducible refine (N4.out _).mono ?_)
          rintro r4 v4mf ⟨A4, c4, rfl, g1, g2, g3, b1⟩
          replace X0 := X0.below b1 X0.lt
          replace B0 := below_step B0 b1
          replace R1 := Lib.hid (R1.out.below b1)
          replace R2 := Lib.hid (R2.out.below b1)
          replace R3 := Lib.hid (R3.out.below b1)
          replace RM := Lib.hid (RM.out.below b1)
          have ln := L4.out
          simp only [ln] at g1
          try simp only [ln]
          have R4 := Lib.hid (Arg.of_row (n := 2) g3 ln.symm (by omega) g1 g2)
          clear b1 g1 g2 g3 ln
          refine hK5.out _ _ X0 (fun _ => ?_)
          clear hK5 K5
          refine wpAnyH_ready (rs := [17]) (by kernel_rfl) (by simp) ?_
          refine AllReadyH.cons (lit rfl) (fun K5 hK5 => ?_) AllReadyH.nil
          refine step_open rfl ?_
          go_simp
          go_at_call 22
          (with_reducible refine (N5.out _).mono ?_)
          rintro r5 v5mf ⟨A5, c5, rfl, g1, g2, g3, b1⟩
          replace X0 := X0.below b1 X0.lt
          replace B0 := below_step B0 b1
          replace R1 := Lib.hid (R1.out.below b1)
          replace R2 := Lib.hid (R2.out.below b1)
          replace R3 := Lib.hid (R3.out.below b1)
          replace R4 := Lib.hid (R4.out.below b1)
          replace RM := Lib.hid (RM.out.below b1)
          have ln := L5.out
          simp only [ln] at g1
          try simp only [ln]
          have R5 := Lib.hid (Arg.of_row (n := 2) g3 ln.symm (by omega) g1 g2)
          clear b1 g1 g2 g3 ln
          refine hK5.out _ _ X0 (fun _ => ?_)
          clear hK5 K5
          refine wpAnyH_ready (rs := [18]) (by kernel_rfl) (by simp) ?_
          refine AllReadyH.cons (lit rfl) (fun K5 hK5 => ?_) AllReadyH.nil
          refine step_open rfl ?_
          go_simp
          obtain ⟨z1, hz1⟩ : ∃ x, v5mf.alloc (.cells #[.slice (some ⟨bm, 0, none⟩) 4 4, .slice A1 1 c1, .slice A2 8 c2, .slice A3 2 c3, .slice A4 2 c4, .slice A5 2 c5] 26) = x := ⟨_, rfl⟩
          try rw [hz1]
          have bz : Below v5mf.heap.size v5mf z1 := hz1 ▸ (Below.refl _ v5mf).alloc (Nat.le_refl _) _
          have Q1 : Hid (CellsA z1 (some ⟨v5mf.heap.size, 0, none⟩) 6 6 [⟨some ⟨bm, 0, none⟩, 4, 4, markL⟩, ⟨A1, 1, c1, n1⟩, ⟨A2, 8, c2, n2⟩, ⟨A3, 2, c3, n3⟩, ⟨A4, 2, c4, n4⟩, ⟨A5, 2, c5, n5⟩]) := Lib.hid (cells_of10 (w := z1) (B := v5mf.heap.size) (q := [⟨some ⟨bm, 0, none⟩, 4, 4, markL⟩, ⟨A1, 1, c1, n1⟩, ⟨A2, 8, c2, n2⟩, ⟨A3, 2, c3, n3⟩, ⟨A4, 2, c4, n4⟩, ⟨A5, 2, c5, n5⟩]) (by simp) (hz1 ▸ Has.made v5mf 26 _) (by
            intro y hy
            simp only [List.mem_cons, List.mem_nil_iff, or_false] at hy
            rcases hy with rfl | rfl | rfl | rfl | rfl | rfl
            · exact RM.out.below bz
            · exact R1.out.below bz
            · exact R2.out.below bz
            · exact R3.out.below bz
            · exact R4.out.below bz
            · exact R5.out.below bz
            ))
          replace X0 := X0.below bz X0.lt
          replace B0 := below_step B0 bz
          clear bz hz1 RM R1 R2 R3 R4 R5
          refine hK5.out _ _ X0 (fun _ => ?_)
          clear hK5 K5
          refine wpAnyH_ready (rs := [19]) (by kernel_rfl) (by simp) ?_
          refine AllReadyH.cons (lit rfl) (fun K5 hK5 => ?_) AllReadyH.nil
          refine step_open rfl ?_
          go_simp
          go_at_call 20
          (with_reducible refine (HCC.out _ _ _ _ _ Q1.out (by rw [HFL.out, HCL.out]; decide) (by decide)).mono ?_)
          rw [HFL.out]
          rintro r9 z2 ⟨A9, c9, rfl, g1, g2, g3, b1⟩
          replace X0 := X0.below b1 X0.lt
          replace B0 := below_step B0 b1
          have R9 := Lib.hid (Arg.of_row g3 rfl (by rw [HCL.out]; decide) g1 g2)
          clear b1 g1 g2 g3
          refine hK5.out _ _ X0 (fun _ => ?_)
          clear hK5 K5
          refine wpAnyH_take (i := 20) (v := .slice A9 cb.length c9) (lit rfl) (by kernel_rfl) (by kernel_rfl) (by kernel_rfl) (fun _ _ _ h => h) (Or.inl ⟨by rfl, ?_⟩) X0 ?_
          · intro w6 s1
            go_simp
          simp only [Act.put, List.setIfInBounds_toArray, List.set_cons_zero, List.set_cons_succ]
          refine wpAnyH_done (by kernel_rfl) ?_ _
          exact HMI.out A9 c9 _ _ _ _ _ _ _ _ _ _ _ _ _ _ _ _ _ _ _ _ _ R9.out B0
        · skip
          refine step_open rfl ?_
          go_simp
          go_at_call 22
          (with_reducible refine (N3.out _).mono ?_)
          rintro r3 v3m ⟨A3, c3, rfl, g1, g2, g3, b1⟩
          replace X0 := X0.below b1 X0.lt
          replace B0 := below_step B0 b1
          replace R1 := Lib.hid (R1.out.below b1)
          replace R2 := Lib.hid (R2.out.below b1)
          replace HM := HM.below b1 HM.lt
          have ln := L3.out
          simp only [ln] at g1
          try simp only [ln]
          have R3 := Lib.hid (Arg.of_row (n := 2) g3 ln.symm (by omega) g1 g2)
          clear b1 g1 g2 g3 ln
          refine hK5.out _ _ X0 (fun _ => ?_)
          clear hK5 K5
          refine wpAnyH_ready (rs := [1, 14]) (by kernel_rfl) (by simp) ?_
          refine AllReadyH.cons (lit rfl) (fun K5 hK5 => ?_) (AllReadyH.cons (lit rfl) (fun K5 hK5 => ?_) AllReadyH.nil)
          · skip
            obtain ⟨v3mf, hcv, hsz, hcl, hgr⟩ := freeze_mark HM 4 4
            have RM := Lib.hid ((mark_of HM).same hsz hcl)
            refine step_open rfl ?_
            go_simp
            replace X0 := X0.grown hgr (by intro e; injection e with e; omega)
            replace B0 := B0.trans (below_only hgr (by omega) B0.size)
            replace R1 := Lib.hid (R1.out.same hsz hcl)
            replace R2 := Lib.hid (R2.out.same hsz hcl)
            replace R3 := Lib.hid (R3.out.same hsz hcl)
            clear HM hcv hsz hcl hgr
            refine hK5.out _ _ X0 (fun _ => ?_)
            clear hK5 K5
            refine wpAnyH_ready (rs := [14]) (by kernel_rfl) (by simp) ?_
            refine AllReadyH.cons (lit rfl) (fun K5 hK5 => ?_) AllReadyH.nil
            refine step_open rfl ?_
            go_simp
            go_at_call 22
            (with_reducible refine (N4.out _).mono ?_)
            rintro r4 v4mf ⟨A4, c4, rfl, g1, g2, g3, b1⟩
            replace X0 := X0.below b1 X0.lt
            replace B0 := below_step B0 b1
            replace R1 := Lib.hid (R1.out.below b1)
            replace R2 := Lib.hid (R2.out.below b1)
            replace R3 := Lib.hid (R3.out.below b1)
            replace RM := Lib.hid (RM.out.below b1)
            have ln := L4.out
            simp only [ln] at g1
            try simp only [ln]
            have R4 := Lib.hid (Arg.of_row (n := 2) g3 ln.symm (by omega) g1 g2)
            clear b1 g1 g2 g3 ln
            refine hK5.out _ _ X0 (fun _ => ?_)
            clear hK5 K5
            refine wpAnyH_ready (rs := [17]) (by kernel_rfl) (by simp) ?_
            refine AllReadyH.cons (lit rfl) (fun K5 hK5 => ?_) AllReadyH.nil
            refine step_open rfl ?_
            go_simp
            go_at_call 22
            (with_reducible refine (N5.out _).mono ?_)
            rintro r5 v5mf ⟨A5, c5, rfl, g1, g2, g3, b1⟩
            replace X0 := X0.below b1 X0.lt
            replace B0 := below_step B0 b1
            replace R1 := Lib.hid (R1.out.below b1)
            replace R2 := Lib.hid (R2.out.below b1)
            replace R3 := Lib.hid (R3.out.below b1)
            replace R4 := Lib.hid (R4.out.below b1)
            replace RM := Lib.hid (RM.out.below b1)
            have ln := L5.out
            simp only [ln] at g1
            try simp only [ln]
            have R5 := Lib.hid (Arg.of_row (n := 2) g3 ln.symm (by omega) g1 g2)
            clear b1 g1 g2 g3 ln
            refine hK5.out _ _ X0 (fun _ => ?_)
            clear hK5 K5
            refine wpAnyH_ready (rs := [18]) (by kernel_rfl) (by simp) ?_
            refine AllReadyH.cons (lit rfl) (fun K5 hK5 => ?_) AllReadyH.nil
            refine step_open rfl ?_
            go_simp
            obtain ⟨z1, hz1⟩ : ∃ x, v5mf.alloc (.cells #[.slice (some ⟨bm, 0, none⟩) 4 4, .slice A1 1 c1, .slice A2 8 c2, .slice A3 2 c3, .slice A4 2 c4, .slice A5 2 c5] 26) = x := ⟨_, rfl⟩
            try rw [hz1]
            have bz : Below v5mf.heap.size v5mf z1 := hz1 ▸ (Below.refl _ v5mf).alloc (Nat.le_refl _) _
            have Q1 : Hid (CellsA z1 (some ⟨v5mf.heap.size, 0, none⟩) 6 6 [⟨some ⟨bm, 0, none⟩, 4, 4, markL⟩, ⟨A1, 1, c1, n1⟩, ⟨A2, 8, c2, n2⟩, ⟨A3, 2, c3, n3⟩, ⟨A4, 2, c4, n4⟩, ⟨A5, 2, c5, n5⟩]) := Lib.hid (cells_of10 (w := z1) (B := v5mf.heap.size) (q := [⟨some ⟨bm, 0, none⟩, 4, 4, markL⟩, ⟨A1, 1, c1, n1⟩, ⟨A2, 8, c2, n2⟩, ⟨A3, 2, c3, n3⟩, ⟨A4, 2, c4, n4⟩, ⟨A5, 2, c5, n5⟩]) (by simp) (hz1 ▸ Has.made v5mf 26 _) (by
              intro y hy
              simp only [List.mem_cons, List.mem_nil_iff, or_false] at hy
              rcases hy with rfl | rfl | rfl | rfl | rfl | rfl
              · exact RM.out.below bz
              · exact R1.out.below bz
              · exact R2.out.below bz
              · exact R3.out.below bz
              · exact R4.out.below bz
              · exact R5.out.below bz
              ))
            replace X0 := X0.below bz X0.lt
            replace B0 := below_step B0 bz
            clear bz hz1 RM R1 R2 R3 R4 R5
            refine hK5.out _ _ X0 (fun _ => ?_)
            clear hK5 K5
            refine wpAnyH_ready (rs := [19]) (by kernel_rfl) (by simp) ?_
            refine AllReadyH.cons (lit rfl) (fun K5 hK5 => ?_) AllReadyH.nil
            refine step_open rfl ?_
            go_simp
            go_at_call 20
            (with_reducible refine (HCC.out _ _ _ _ _ Q1.out (by rw [HFL.out, HCL.out]; decide) (by decide)).mono ?_)
            rw [HFL.out]
            rintro r9 z2 ⟨A9, c9, rfl, g1, g2, g3, b1⟩
            replace X0 := X0.below b1 X0.lt
            replace B0 := below_step B0 b1
            have R9 := Lib.hid (Arg.of_row g3 rfl (by rw [HCL.out]; decide) g1 g2)
            clear b1 g1 g2 g3
            refine hK5.out _ _ X0 (fun _ => ?_)
            clear hK5 K5
            refine wpAnyH_take (i := 20) (v := .slice A9 cb.length c9) (lit rfl) (by kernel_rfl) (by kernel_rfl) (by kernel_rfl) (fun _ _ _ h => h) (Or.inl ⟨by rfl, ?_⟩) X0 ?_
            · intro w6 s1
              go_simp
            simp only [Act.put, List.setIfInBounds_toArray, List.set_cons_zero, List.set_cons_succ]
            refine wpAnyH_done (by kernel_rfl) ?_ _
            exact HMI.out A9 c9 _ _ _ _ _ _ _ _ _ _ _ _ _ _ _ _ _ _ _ _ _ R9.out B0
          · skip
            refine step_open rfl ?_
            go_simp
            go_at_call 22
            (with_reducible refine (N4.out _).mono ?_)
            rintro r4 v4m ⟨A4, c4, rfl, g1, g2, g3, b1⟩
            replace X0 := X0.below b1 X0.lt
            replace B0 := below_step B0 b1
            replace R1 := Lib.hid (R1.out.below b1)
            replace R2 := Lib.hid (R2.out.below b1)
            replace R3 := Lib.hid (R3.out.below b1)
            replace HM := HM.below b1 HM.lt
            have ln := L4.out
            simp only [ln] at g1
            try simp only [ln]
            have R4 := Lib.hid (Arg.of_row (n := 2) g3 ln.symm (by omega) g1 g2)
            clear b1 g1 g2 g3 ln
            refine hK5.out _ _ X0 (fun _ => ?_)
            clear hK5 K5
            refine wpAnyH_ready (rs := [1, 17]) (by kernel_rfl) (by simp) ?_
            refine AllReadyH.cons (lit rfl) (fun K5 hK5 => ?_) (AllReadyH.cons (lit rfl) (fun K5 hK5 => ?_) AllReadyH.nil)
            · skip
              obtain ⟨v4mf, hcv, hsz, hcl, hgr⟩ := freeze_mark HM 4 4
              have RM := Lib.hid ((mark_of HM).same hsz hcl)
              refine step_open rfl ?_
              go_simp
              replace X0 := X0.grown hgr (by intro e; injection e with e; omega)
              replace B0 := B0.trans (below_only hgr (by omega) B0.size)
              replace R1 := Lib.hid (R1.out.same hsz hcl)
              replace R2 := Lib.hid (R2.out.same hsz hcl)
              replace R3 := Lib.hid (R3.out.same hsz hcl)
              replace R4 := Lib.hid (R4.out.same hsz hcl)
              clear HM hcv hsz hcl hgr
              refine hK5.out _ _ X0 (fun _ => ?_)
              clear hK5 K5
              refine wpAnyH_ready (rs := [17]) (by kernel_rfl) (by simp) ?_
              refine AllReadyH.cons (lit rfl) (fun K5 hK5 => ?_) AllReadyH.nil
              refine step_open rfl ?_
              go_simp
              go_at_call 22
              (with_reducible refine (N5.out _).mono ?_)
              rintro r5 v5mf ⟨A5, c5, rfl, g1, g2, g3, b1⟩
              replace X0 := X0.below b1 X0.lt
              replace B0 := below_step B0 b1
              replace R1 := Lib.hid (R1.out.below b1)
              replace R2 := Lib.hid (R2.out.below b1)
              replace R3 := Lib.hid (R3.out.below b1)
              replace R4 := Lib.hid (R4.out.below b1)
              replace RM := Lib.hid (RM.out.below b1)
              have ln := L5.out
              simp only [ln] at g1
              try simp only [ln]
              have R5 := Lib.hid (Arg.of_row (n := 2) g3 ln.symm (by omega) g1 g2)
              clear b1 g1 g2 g3 ln
              refine hK5.out _ _ X0 (fun _ => ?_)
              clear hK5 K5
              refine wpAnyH_ready (rs := [18]) (by kernel_rfl) (by simp) ?_
              refine AllReadyH.cons (lit rfl) (fun K5 hK5 => ?_) AllReadyH.nil
              refine step_open rfl ?_
              go_simp
              obtain ⟨z1, hz1⟩ : ∃ x, v5mf.alloc (.cells #[.slice (some ⟨bm, 0, none⟩) 4 4, .slice A1 1 c1, .slice A2 8 c2, .slice A3 2 c3, .slice A4 2 c4, .slice A5 2 c5] 26) = x := ⟨_, rfl⟩
              try rw [hz1]
              have bz : Below v5mf.heap.size v5mf z1 := hz1 ▸ (Below.refl _ v5mf).alloc (Nat.le_refl _) _
              have Q1 : Hid (CellsA z1 (some ⟨v5mf.heap.size, 0, none⟩) 6 6 [⟨some ⟨bm, 0, none⟩, 4, 4, markL⟩, ⟨A1, 1, c1, n1⟩, ⟨A2, 8, c2, n2⟩, ⟨A3, 2, c3, n3⟩, ⟨A4, 2, c4, n4⟩, ⟨A5, 2, c5, n5⟩]) := Lib.hid (cells_of10 (w := z1) (B := v5mf.heap.size) (q := [⟨some ⟨bm, 0, none⟩, 4, 4, markL⟩, ⟨A1, 1, c1, n1⟩, ⟨A2, 8, c2, n2⟩, ⟨A3, 2, c3, n3⟩, ⟨A4, 2, c4, n4⟩, ⟨A5, 2, c5, n5⟩]) (by simp) (hz1 ▸ Has.made v5mf 26 _) (by
                intro y hy
                simp only [List.mem_cons, List.mem_nil_iff, or_false] at hy
                rcases hy with rfl | rfl | rfl | rfl | rfl | rfl
                · exact RM.out.below bz
                · exact R1.out.below bz
                · exact R2.out.below bz
                · exact R3.out.below bz
                · exact R4.out.below bz
                · exact R5.out.below bz
                ))
              replace X0 := X0.below bz X0.lt
              replace B0 := below_step B0 bz
              clear bz hz1 RM R1 R2 R3 R4 R5
              refine hK5.out _ _ X0 (fun _ => ?_)
              clear hK5 K5
              refine wpAnyH_ready (rs := [19]) (by kernel_rfl) (by simp) ?_
              refine AllReadyH.cons (lit rfl) (fun K5 hK5 => ?_) AllReadyH.nil
              refine step_open rfl ?_
              go_simp
              go_at_call 20
              (with_reducible refine (HCC.out _ _ _ _ _ Q1.out (by rw [HFL.out, HCL.out]; decide) (by decide)).mono ?_)
              rw [HFL.out]
              rintro r9 z2 ⟨A9, c9, rfl, g1, g2, g3, b1⟩
              replace X0 := X0.below b1 X0.lt
              replace B0 := below_step B0 b1
              have R9 := Lib.hid (Arg.of_row g3 rfl (by rw [HCL.out]; decide) g1 g2)
              clear b1 g1 g2 g3
              refine hK5.out _ _ X0 (fun _ => ?_)
              clear hK5 K5
              refine wpAnyH_take (i := 20) (v := .slice A9 cb.length c9) (lit rfl) (by kernel_rfl) (by kernel_rfl) (by kernel_rfl) (fun _ _ _ h => h) (Or.inl ⟨by rfl, ?_⟩) X0 ?_
              · intro w6 s1
                go_simp
              simp only [Act.put, List.setIfInBounds_toArray, List.set_cons_zero, List.set_cons_succ]
              refine wpAnyH_done (by kernel_rfl) ?_ _
              exact HMI.out A9 c9 _ _ _ _ _ _ _ _ _ _ _ _ _ _ _ _ _ _ _ _ _ R9.out B0
            · skip
              refine step_open rfl ?_
              go_simp
              go_at_call 22
              (with_reducible refine (N5.out _).mono ?_)
              rintro r5 v5m ⟨A5, c5, rfl, g1, g2, g3, b1⟩
              replace X0 := X0.below b1 X0.lt
              replace B0 := below_step B0 b1
              replace R1 := Lib.hid (R1.out.below b1)
              replace R2 := Lib.hid (R2.out.below b1)
              replace R3 := Lib.hid (R3.out.below b1)
              replace R4 := Lib.hid (R4.out.below b1)
              replace HM := HM.below b1 HM.lt
              have ln := L5.out
              simp only [ln] at g1
              try simp only [ln]
              have R5 := Lib.hid (Arg.of_row (n := 2) g3 ln.symm (by omega) g1 g2)
              clear b1 g1 g2 g3 ln
              refine hK5.out _ _ X0 (fun _ => ?_)
              clear hK5 K5
              refine wpAnyH_ready (rs := [1]) (by kernel_rfl) (by simp) ?_
              refine AllReadyH.cons (lit rfl) (fun K5 hK5 => ?_) AllReadyH.nil
              obtain ⟨v5mf, hcv, hsz, hcl, hgr⟩ := freeze_mark HM 4 4
              have RM := Lib.hid ((mark_of HM).same hsz hcl)
              refine step_open rfl ?_
              go_simp
              replace X0 := X0.grown hgr (by intro e; injection e with e; omega)
              replace B0 := B0.trans (below_only hgr (by omega) B0.size)
              replace R1 := Lib.hid (R1.out.same hsz hcl)
              replace R2 := Lib.hid (R2.out.same hsz hcl)
              replace R3 := Lib.hid (R3.out.same hsz hcl)
              replace R4 := Lib.hid (R4.out.same hsz hcl)
              replace R5 := Lib.hid (R5.out.same hsz hcl)
              clear HM hcv hsz hcl hgr
              refine hK5.out _ _ X0 (fun _ => ?_)
              clear hK5 K5
              refine wpAnyH_ready (rs := [18]) (by kernel_rfl) (by simp) ?_
              refine AllReadyH.cons (lit rfl) (fun K5 hK5 => ?_) AllReadyH.nil
              refine step_open rfl ?_
              go_simp
              obtain ⟨z1, hz1⟩ : ∃ x, v5mf.alloc (.cells #[.slice (some ⟨bm, 0, none⟩) 4 4, .slice A1 1 c1, .slice A2 8 c2, .slice A3 2 c3, .slice A4 2 c4, .slice A5 2 c5] 26) = x := ⟨_, rfl⟩
              try rw [hz1]
              have bz : Below v5mf.heap.size v5mf z1 := hz1 ▸ (Below.refl _ v5mf).alloc (Nat.le_refl _) _
              have Q1 : Hid (CellsA z1 (some ⟨v5mf.heap.size, 0, none⟩) 6 6 [⟨some ⟨bm, 0, none⟩, 4, 4, markL⟩, ⟨A1, 1, c1, n1⟩, ⟨A2, 8, c2, n2⟩, ⟨A3, 2, c3, n3⟩, ⟨A4, 2, c4, n4⟩, ⟨A5, 2, c5, n5⟩]) := Lib.hid (cells_of10 (w := z1) (B := v5mf.heap.size) (q := [⟨some ⟨bm, 0, none⟩, 4, 4, markL⟩, ⟨A1, 1, c1, n1⟩, ⟨A2, 8, c2, n2⟩, ⟨A3, 2, c3, n3⟩, ⟨A4, 2, c4, n4⟩, ⟨A5, 2, c5, n5⟩]) (by simp) (hz1 ▸ Has.made v5mf 26 _) (by
                intro y hy
                simp only [List.mem_cons, List.mem_nil_iff, or_false] at hy
                rcases hy with rfl | rfl | rfl | rfl | rfl | rfl
                · exact RM.out.below bz
                · exact R1.out.below bz
                · exact R2.out.below bz
                · exact R3.out.below bz
                · exact R4.out.below bz
                · exact R5.out.below bz
                ))
              replace X0 := X0.below bz X0.lt
              replace B0 := below_step B0 bz
              clear bz hz1 RM R1 R2 R3 R4 R5
              refine hK5.out _ _ X0 (fun _ => ?_)
              clear hK5 K5
              refine wpAnyH_ready (rs := [19]) (by kernel_rfl) (by simp) ?_
              refine AllReadyH.cons (lit rfl) (fun K5 hK5 => ?_) AllReadyH.nil
              refine step_open rfl ?_
              go_simp
              go_at_call 20
              (with_reducible refine (HCC.out _ _ _ _ _ Q1.out (by rw [HFL.out, HCL.out]; decide) (by decide)).mono ?_)
              rw [HFL.out]
              rintro r9 z2 ⟨A9, c9, rfl, g1, g2, g3, b1⟩
              replace X0 := X0.below b1 X0.lt
              replace B0 := below_step B0 b1
              have R9 := Lib.hid (Arg.of_row g3 rfl (by rw [HCL.out]; decide) g1 g2)
              clear b1 g1 g2 g3
              refine hK5.out _ _ X0 (fun _ => ?_)
              clear hK5 K5
              refine wpAnyH_take (i := 20) (v := .slice A9 cb.length c9) (lit rfl) (by kernel_rfl) (by kernel_rfl) (by kernel_rfl) (fun _ _ _ h => h) (Or.inl ⟨by rfl, ?_⟩) X0 ?_
              · intro w6 s1
                go_simp
              simp only [Act.put, List.setIfInBounds_toArray, List.set_cons_zero, List.set_cons_succ]
              refine wpAnyH_done (by kernel_rfl) ?_ _
              exact HMI.out A9 c9 _ _ _ _ _ _ _ _ _ _ _ _ _ _ _ _ _ _ _ _ _ R9.out B0
    · skip
      refine step_open rfl ?_
      go_simp
      go_at_call 21
      (with_reducible refine (N2.out _).mono ?_)
      rintro r2 v2 ⟨A2, c2, rfl, g1, g2, g3, b1⟩
      replace X0 := X0.below b1 X0.lt
      replace B0 := below_step B0 b1
      replace R1 := Lib.hid (R1.out.below b1)
      have ln := L2.out
      simp only [ln] at g1
      try simp only [ln]
      have R2 := Lib.hid (Arg.of_row (n := 8) g3 ln.symm (by omega) g1 g2)
      clear b1 g1 g2 g3 ln
      refine hK5.out _ _ X0 (fun _ => ?_)
      clear hK5 K5
      refine wpAnyH_ready (rs := [0, 11]) (by kernel_rfl) (by simp) ?_
      refine AllReadyH.cons (lit rfl) (fun K5 hK5 => ?_) (AllReadyH.cons (lit rfl) (fun K5 hK5 => ?_) AllReadyH.nil)
      · skip
        refine step_open rfl ?_
        go_simp
        obtain ⟨v2m, hv2m⟩ : ∃ x, v2.alloc (.cells #[.int .u8 109, .int .u8 101, .int .u8 116, .int .u8 97] 5) = x := ⟨_, rfl⟩
        try rw [hv2m]
        have bv2m : Below v2.heap.size v2 v2m := hv2m ▸ (Below.refl _ v2).alloc (Nat.le_refl _) _
        have HM := hv2m ▸ Has.made v2 5 #[.int .u8 109, .int .u8 101, .int .u8 116, .int .u8 97]
        have hbm : w.heap.size < v2.heap.size := X0.lt
        replace X0 := X0.below bv2m X0.lt
        replace B0 := below_step B0 bv2m
        replace R1 := Lib.hid (R1.out.below bv2m)
        replace R2 := Lib.hid (R2.out.below bv2m)
        clear bv2m hv2m
        generalize v2.heap.size = bm at HM hbm ⊢
        refine hK5.out _ _ X0 (fun _ => ?_)
        clear hK5 K5
        refine wpAnyH_ready (rs := [1, 11]) (by kernel_rfl) (by simp) ?_
        refine AllReadyH.cons (lit rfl) (fun K5 hK5 => ?_) (AllReadyH.cons (lit rfl) (fun K5 hK5 => ?_) AllReadyH.nil)
        · skip
          obtain ⟨v2mf, hcv, hsz, hcl, hgr⟩ := freeze_mark HM 4 4
          have RM := Lib.hid ((mark_of HM).same hsz hcl)
          refine step_open rfl ?_
          go_simp
          replace X0 := X0.grown hgr (by intro e; injection e with e; omega)
          replace B0 := B0.trans (below_only hgr (by omega) B0.size)
          replace R1 := Lib.hid (R1.out.same hsz hcl)
          replace R2 := Lib.hid (R2.out.same hsz hcl)
          clear HM hcv hsz hcl hgr
          refine hK5.out _ _ X0 (fun _ => ?_)
          clear hK5 K5
          refine wpAnyH_ready (rs := [11]) (by kernel_rfl) (by simp) ?_
          refine AllReadyH.cons (lit rfl) (fun K5 hK5 => ?_) AllReadyH.nil
          refine step_open rfl ?_
          go_simp
          go_at_call 22
          (with_reducible refine (N3.out _).mono ?_)
          rintro r3 v3mf ⟨A3, c3, rfl, g1, g2, g3, b1⟩
          replace X0 := X0.below b1 X0.lt
          replace B0 := below_step B0 b1
          replace R1 := Lib.hid (R1.out.below b1)
          replace R2 := Lib.hid (R2.out.below b1)
          replace RM := Lib.hid (RM.out.below b1)
          have ln := L3.out
          simp only [ln] at g1
          try simp only [ln]
          have R3 := Lib.hid (Arg.of_row (n := 2) g3 ln.symm (by omega) g1 g2)
          clear b1 g1 g2 g3 ln
          refine hK5.out _ _ X0 (fun _ => ?_)
          clear hK5 K5
          refine wpAnyH_ready (rs := [14]) (by kernel_rfl) (by simp) ?_
          refine AllReadyH.cons (lit rfl) (fun K5 hK5 => ?_) AllReadyH.nil
          refine step_open rfl ?_
          go_simp
          go_at_call 22
          (with_reducible refine (N4.out _).mono ?_)
          rintro r4 v4mf ⟨A4, c4, rfl, g1, g2, g3, b1⟩
          replace X0 := X0.below b1 X0.lt
          replace B0 := below_step B0 b1
          replace R1 := Lib.hid (R1.out.below b1)
          replace R2 := Lib.hid (R2.out.below b1)
          replace R3 := Lib.hid (R3.out.below b1)
          replace RM := Lib.hid (RM.out.below b1)
          have ln := L4.out
          simp only [ln] at g1
          try simp only [ln]
          have R4 := Lib.hid (Arg.of_row (n := 2) g3 ln.symm (by omega) g1 g2)
          clear b1 g1 g2 g3 ln
          refine hK5.out _ _ X0 (fun _ => ?_)
          clear hK5 K5
          refine wpAnyH_ready (rs := [17]) (by kernel_rfl) (by simp) ?_
          refine AllReadyH.cons (lit rfl) (fun K5 hK5 => ?_) AllReadyH.nil
          refine step_open rfl ?_
          go_simp
          go_at_call 22
          (with_reducible refine (N5.out _).mono ?_)
          rintro r5 v5mf ⟨A5, c5, rfl, g1, g2, g3, b1⟩
          replace X0 := X0.below b1 X0.lt
          replace B0 := below_step B0 b1
          replace R1 := Lib.hid (R1.out.below b1)
          replace R2 := Lib.hid (R2.out.below b1)
          replace R3 := Lib.hid (R3.out.below b1)
          replace R4 := Lib.hid (R4.out.below b1)
          replace RM := Lib.hid (RM.out.below b1)
          have ln := L5.out
          simp only [ln] at g1
          try simp only [ln]
          have R5 := Lib.hid (Arg.of_row (n := 2) g3 ln.symm (by omega) g1 g2)
          clear b1 g1 g2 g3 ln
          refine hK5.out _ _ X0 (fun _ => ?_)
          clear hK5 K5
          refine wpAnyH_ready (rs := [18]) (by kernel_rfl) (by simp) ?_
          refine AllReadyH.cons (lit rfl) (fun K5 hK5 => ?_) AllReadyH.nil
          refine step_open rfl ?_
          go_simp
          obtain ⟨z1, hz1⟩ : ∃ x, v5mf.alloc (.cells #[.slice (some ⟨bm, 0, none⟩) 4 4, .slice A1 1 c1, .slice A2 8 c2, .slice A3 2 c3, .slice A4 2 c4, .slice A5 2 c5] 26) = x := ⟨_, rfl⟩
          try rw [hz1]
          have bz : Below v5mf.heap.size v5mf z1 := hz1 ▸ (Below.refl _ v5mf).alloc (Nat.le_refl _) _
          have Q1 : Hid (CellsA z1 (some ⟨v5mf.heap.size, 0, none⟩) 6 6 [⟨some ⟨bm, 0, none⟩, 4, 4, markL⟩, ⟨A1, 1, c1, n1⟩, ⟨A2, 8, c2, n2⟩, ⟨A3, 2, c3, n3⟩, ⟨A4, 2, c4, n4⟩, ⟨A5, 2, c5, n5⟩]) := Lib.hid (cells_of10 (w := z1) (B := v5mf.heap.size) (q := [⟨some ⟨bm, 0, none⟩, 4, 4, markL⟩, ⟨A1, 1, c1, n1⟩, ⟨A2, 8, c2, n2⟩, ⟨A3, 2, c3, n3⟩, ⟨A4, 2, c4, n4⟩, ⟨A5, 2, c5, n5⟩]) (by simp) (hz1 ▸ Has.made v5mf 26 _) (by
            intro y hy
            simp only [List.mem_cons, List.mem_nil_iff, or_false] at hy
            rcases hy with rfl | rfl | rfl | rfl | rfl | rfl
            · exact RM.out.below bz
            · exact R1.out.below bz
            · exact R2.out.below bz
            · exact R3.out.below bz
            · exact R4.out.below bz
            · exact R5.out.below bz
            ))
          replace X0 := X0.below bz X0.lt
          replace B0 := below_step B0 bz
          clear bz hz1 RM R1 R2 R3 R4 R5
          refine hK5.out _ _ X0 (fun _ => ?_)
          clear hK5 K5
          refine wpAnyH_ready (rs := [19]) (by kernel_rfl) (by simp) ?_
          refine AllReadyH.cons (lit rfl) (fun K5 hK5 => ?_) AllReadyH.nil
          refine step_open rfl ?_
          go_simp
          go_at_call 20
          (with_reducible refine (HCC.out _ _ _ _ _ Q1.out (by rw [HFL.out, HCL.out]; decide) (by decide)).mono ?_)
          rw [HFL.out]
          rintro r9 z2 ⟨A9, c9, rfl, g1, g2, g3, b1⟩
          replace X0 := X0.below b1 X0.lt
          replace B0 := below_step B0 b1
          have R9 := Lib.hid (Arg.of_row g3 rfl (by rw [HCL.out]; decide) g1 g2)
          clear b1 g1 g2 g3
          refine hK5.out _ _ X0 (fun _ => ?_)
          clear hK5 K5
          refine wpAnyH_take (i := 20) (v := .slice A9 cb.length c9) (lit rfl) (by kernel_rfl) (by kernel_rfl) (by kernel_rfl) (fun _ _ _ h => h) (Or.inl ⟨by rfl, ?_⟩) X0 ?_
          · intro w6 s1
            go_simp
          simp only [Act.put, List.setIfInBounds_toArray, List.set_cons_zero, List.set_cons_succ]
          refine wpAnyH_done (by kernel_rfl) ?_ _
          exact HMI.out A9 c9 _ _ _ _ _ _ _ _ _ _ _ _ _ _ _ _ _ _ _ _ _ R9.out B0
        · skip
          refine step_open rfl ?_
          go_simp
          go_at_call 22
          (with_reducible refine (N3.out _).mono ?_)
          rintro r3 v3m ⟨A3, c3, rfl, g1, g2, g3, b1⟩
          replace X0 := X0.below b1 X0.lt
          replace B0 := below_step B0 b1
          replace R1 := Lib.hid (R1.out.below b1)
          replace R2 := Lib.hid (R2.out.below b1)
          replace HM := HM.below b1 HM.lt
          have ln := L3.out
          simp only [ln] at g1
          try simp only [ln]
          have R3 := Lib.hid (Arg.of_row (n := 2) g3 ln.symm (by omega) g1 g2)
          clear b1 g1 g2 g3 ln
          refine hK5.out _ _ X0 (fun _ => ?_)
          clear hK5 K5
          refine wpAnyH_ready (rs := [1, 14]) (by kernel_rfl) (by simp) ?_
          refine AllReadyH.cons (lit rfl) (fun K5 hK5 => ?_) (AllReadyH.cons (lit rfl) (fun K5 hK5 => ?_) AllReadyH.nil)
          · skip
            obtain ⟨v3mf, hcv, hsz, hcl, hgr⟩ := freeze_mark HM 4 4
            have RM := Lib.hid ((mark_of HM).same hsz hcl)
            refine step_open rfl ?_
            go_simp
            replace X0 := X0.grown hgr (by intro e; injection e with e; omega)
            replace B0 := B0.trans (below_only hgr (by omega) B0.size)
            replace R1 := Lib.hid (R1.out.same hsz hcl)
            replace R2 := Lib.hid (R2.out.same hsz hcl)
            replace R3 := Lib.hid (R3.out.same hsz hcl)
            clear HM hcv hsz hcl hgr
            refine hK5.out _ _ X0 (fun _ => ?_)
            clear hK5 K5
            refine wpAnyH_ready (rs := [14]) (by kernel_rfl) (by simp) ?_
            refine AllReadyH.cons (lit rfl) (fun K5 hK5 => ?_) AllReadyH.nil
            refine step_open rfl ?_
            go_simp
            go_at_call 22
            (with_reducible refine (N4.out _).mono ?_)
            rintro r4 v4mf ⟨A4, c4, rfl, g1, g2, g3, b1⟩
            replace X0 := X0.below b1 X0.lt
            replace B0 := below_step B0 b1
            replace R1 := Lib.hid (R1.out.below b1)
            replace R2 := Lib.hid (R2.out.below b1)
            replace R3 := Lib.hid (R3.out.below b1)
            replace RM := Lib.hid (RM.out.below b1)
            have ln := L4.out
            simp only [ln] at g1
            try simp only [ln]
            have R4 := Lib.hid (Arg.of_row (n := 2) g3 ln.symm (by omega) g1 g2)
            clear b1 g1 g2 g3 ln
            refine hK5.out _ _ X0 (fun _ => ?_)
            clear hK5 K5
            refine wpAnyH_ready (rs := [17]) (by kernel_rfl) (by simp) ?_
            refine AllReadyH.cons (lit rfl) (fun K5 hK5 => ?_) AllReadyH.nil
            refine step_open rfl ?_
            go_simp
            go_at_call 22
            (with_reducible refine (N5.out _).mono ?_)
            rintro r5 v5mf ⟨A5, c5, rfl, g1, g2, g3, b1⟩
            replace X0 := X0.below b1 X0.lt
            replace B0 := below_step B0 b1
            replace R1 := Lib.hid (R1.out.below b1)
            replace R2 := Lib.hid (R2.out.below b1)
            replace R3 := Lib.hid (R3.out.below b1)
            replace R4 := Lib.hid (R4.out.below b1)
            replace RM := Lib.hid (RM.out.below b1)
            have ln := L5.out
            simp only [ln] at g1
            try simp only [ln]
            have R5 := Lib.hid (Arg.of_row (n := 2) g3 ln.symm (by omega) g1 g2)
            clear b1 g1 g2 g3 ln
            refine hK5.out _ _ X0 (fun _ => ?_)
            clear hK5 K5
            refine wpAnyH_ready (rs := [18]) (by kernel_rfl) (by simp) ?_
            refine AllReadyH.cons (lit rfl) (fun K5 hK5 => ?_) AllReadyH.nil
            refine step_open rfl ?_
            go_simp
            obtain ⟨z1, hz1⟩ : ∃ x, v5mf.alloc (.cells #[.slice (some ⟨bm, 0, none⟩) 4 4, .slice A1 1 c1, .slice A2 8 c2, .slice A3 2 c3, .slice A4 2 c4, .slice A5 2 c5] 26) = x := ⟨_, rfl⟩
            try rw [hz1]
            have bz : Below v5mf.heap.size v5mf z1 := hz1 ▸ (Below.refl _ v5mf).alloc (Nat.le_refl _) _
            have Q1 : Hid (CellsA z1 (some ⟨v5mf.heap.size, 0, none⟩) 6 6 [⟨some ⟨bm, 0, none⟩, 4, 4, markL⟩, ⟨A1, 1, c1, n1⟩, ⟨A2, 8, c2, n2⟩, ⟨A3, 2, c3, n3⟩, ⟨A4, 2, c4, n4⟩, ⟨A5, 2, c5, n5⟩]) := Lib.hid (cells_of10 (w := z1) (B := v5mf.heap.size) (q := [⟨some ⟨bm, 0, none⟩, 4, 4, markL⟩, ⟨A1, 1, c1, n1⟩, ⟨A2, 8, c2, n2⟩, ⟨A3, 2, c3, n3⟩, ⟨A4, 2, c4, n4⟩, ⟨A5, 2, c5, n5⟩]) (by simp) (hz1 ▸ Has.made v5mf 26 _) (by
              intro y hy
              simp only [List.mem_cons, List.mem_nil_iff, or_false] at hy
              rcases hy with rfl | rfl | rfl | rfl | rfl | rfl
              · exact RM.out.below bz
              · exact R1.out.below bz
              · exact R2.out.below bz
              · exact R3.out.below bz
              · exact R4.out.below bz
              · exact R5.out.below bz
              ))
            replace X0 := X0.below bz X0.lt
            replace B0 := below_step B0 bz
            clear bz hz1 RM R1 R2 R3 R4 R5
            refine hK5.out _ _ X0 (fun _ => ?_)
            clear hK5 K5
            refine wpAnyH_ready (rs := [19]) (by kernel_rfl) (by simp) ?_
            refine AllReadyH.cons (lit rfl) (fun K5 hK5 => ?_) AllReadyH.nil
            refine step_open rfl ?_
            go_simp
            go_at_call 20
            (with_reducible refine (HCC.out _ _ _ _ _ Q1.out (by rw [HFL.out, HCL.out]; decide) (by decide)).mono ?_)
            rw [HFL.out]
            rintro r9 z2 ⟨A9, c9, rfl, g1, g2, g3, b1⟩
            replace X0 := X0.below b1 X0.lt
            replace B0 := below_step B0 b1
            have R9 := Lib.hid (Arg.of_row g3 rfl (by rw [HCL.out]; decide) g1 g2)
            clear b1 g1 g2 g3
            refine hK5.out _ _ X0 (fun _ => ?_)
            clear hK5 K5
            refine wpAnyH_take (i := 20) (v := .slice A9 cb.length c9) (lit rfl) (by kernel_rfl) (by kernel_rfl) (by kernel_rfl) (fun _ _ _ h => h) (Or.inl ⟨by rfl, ?_⟩) X0 ?_
            · intro w6 s1
              go_simp
            simp only [Act.put, List.setIfInBounds_toArray, List.set_cons_zero, List.set_cons_succ]
            refine wpAnyH_done (by kernel_rfl) ?_ _
            exact HMI.out A9 c9 _ _ _ _ _ _ _ _ _ _ _ _ _ _ _ _ _ _ _ _ _ R9.out B0
          · skip
            refine step_open rfl ?_
            go_simp
            go_at_call 22
            (with_reducible refine (N4.out _).mono ?_)
            rintro r4 v4m ⟨A4, c4, rfl, g1, g2, g3, b1⟩
            replace X0 := X0.below b1 X0.lt
            replace B0 := below_step B0 b1
            replace R1 := Lib.hid (R1.out.below b1)
            replace R2 := Lib.hid (R2.out.below b1)
            replace R3 := Lib.hid (R3.out.below b1)
            replace HM := HM.below b1 HM.lt
            have ln := L4.out
            simp only [ln] at g1
            try simp only [ln]
            have R4 := Lib.hid (Arg.of_row (n := 2) g3 ln.symm (by omega) g1 g2)
            clear b1 g1 g2 g3 ln
            refine hK5.out _ _ X0 (fun _ => ?_)
            clear hK5 K5
            refine wpAnyH_ready (rs := [1, 17]) (by kernel_rfl) (by simp) ?_
            refine AllReadyH.cons (lit rfl) (fun K5 hK5 => ?_) (AllReadyH.cons (lit rfl) (fun K5 hK5 => ?_) AllReadyH.nil)
            · skip
              obtain ⟨v4mf, hcv, hsz, hcl, hgr⟩ := freeze_mark HM 4 4
              have RM := Lib.hid ((mark_of HM).same hsz hcl)
              refine step_open rfl ?_
              go_simp
              replace X0 := X0.grown hgr (by intro e; injection e with e; omega)
              replace B0 := B0.trans (below_only hgr (by omega) B0.size)
              replace R1 := Lib.hid (R1.out.same hsz hcl)
              replace R2 := Lib.hid (R2.out.same hsz hcl)
              replace R3 := Lib.hid (R3.out.same hsz hcl)
              replace R4 := Lib.hid (R4.out.same hsz hcl)
              clear HM hcv hsz hcl hgr
              refine hK5.out _ _ X0 (fun _ => ?_)
              clear hK5 K5
              refine wpAnyH_ready (rs := [17]) (by kernel_rfl) (by simp) ?_
              refine AllReadyH.cons (lit rfl) (fun K5 hK5 => ?_) AllReadyH.nil
              refine step_open rfl ?_
              go_simp
              go_at_call 22
              (with_reducible refine (N5.out _).mono ?_)
              rintro r5 v5mf ⟨A5, c5, rfl, g1, g2, g3, b1⟩
              replace X0 := X0.below b1 X0.lt
              replace B0 := below_step B0 b1
              replace R1 := Lib.hid (R1.out.below b1)
              replace R2 := Lib.hid (R2.out.below b1)
              replace R3 := Lib.hid (R3.out.below b1)
              replace R4 := Lib.hid (R4.out.below b1)
              replace RM := Lib.hid (RM.out.below b1)
              have ln := L5.out
              simp only [ln] at g1
              try simp only [ln]
              have R5 := Lib.hid (Arg.of_row (n := 2) g3 ln.symm (by omega) g1 g2)
              clear b1 g1 g2 g3 ln
              refine hK5.out _ _ X0 (fun _ => ?_)
              clear hK5 K5
              refine wpAnyH_ready (rs := [18]) (by kernel_rfl) (by simp) ?_
              refine AllReadyH.cons (lit rfl) (fun K5 hK5 => ?_) AllReadyH.nil
              refine step_open rfl ?_
              go_simp
              obtain ⟨z1, hz1⟩ : ∃ x, v5mf.alloc (.cells #[.slice (some ⟨bm, 0, none⟩) 4 4, .slice A1 1 c1, .slice A2 8 c2, .slice A3 2 c3, .slice A4 2 c4, .slice A5 2 c5] 26) = x := ⟨_, rfl⟩
              try rw [hz1]
              have bz : Below v5mf.heap.size v5mf z1 := hz1 ▸ (Below.refl _ v5mf).alloc (Nat.le_refl _) _
              have Q1 : Hid (CellsA z1 (some ⟨v5mf.heap.size, 0, none⟩) 6 6 [⟨some ⟨bm, 0, none⟩, 4, 4, markL⟩, ⟨A1, 1, c1, n1⟩, ⟨A2, 8, c2, n2⟩, ⟨A3, 2, c3, n3⟩, ⟨A4, 2, c4, n4⟩, ⟨A5, 2, c5, n5⟩]) := Lib.hid (cells_of10 (w := z1) (B := v5mf.heap.size) (q := [⟨some ⟨bm, 0, none⟩, 4, 4, markL⟩, ⟨A1, 1, c1, n1⟩, ⟨A2, 8, c2, n2⟩, ⟨A3, 2, c3, n3⟩, ⟨A4, 2, c4, n4⟩, ⟨A5, 2, c5, n5⟩]) (by simp) (hz1 ▸ Has.made v5mf 26 _) (by
                intro y hy
                simp only [List.mem_cons, List.mem_nil_iff, or_false] at hy
                rcases hy with rfl | rfl | rfl | rfl | rfl | rfl
                · exact RM.out.below bz
                · exact R1.out.below bz
                · exact R2.out.below bz
                · exact R3.out.below bz
                · exact R4.out.below bz
                · exact R5.out.below bz
                ))
              replace X0 := X0.below bz X0.lt
              replace B0 := below_step B0 bz
              clear bz hz1 RM R1 R2 R3 R4 R5
              refine hK5.out _ _ X0 (fun _ => ?_)
              clear hK5 K5
              refine wpAnyH_ready (rs := [19]) (by kernel_rfl) (by simp) ?_
              refine AllReadyH.cons (lit rfl) (fun K5 hK5 => ?_) AllReadyH.nil
              refine step_open rfl ?_
              go_simp
              go_at_call 20
              (with_reducible refine (HCC.out _ _ _ _ _ Q1.out (by rw [HFL.out, HCL.out]; decide) (by decide)).mono ?_)
              rw [HFL.out]
              rintro r9 z2 ⟨A9, c9, rfl, g1, g2, g3, b1⟩
              replace X0 := X0.below b1 X0.lt
              replace B0 := below_step B0 b1
              have R9 := Lib.hid (Arg.of_row g3 rfl (by rw [HCL.out]; decide) g1 g2)
              clear b1 g1 g2 g3
              refine hK5.out _ _ X0 (fun _ => ?_)
              clear hK5 K5
              refine wpAnyH_take (i := 20) (v := .slice A9 cb.length c9) (lit rfl) (by kernel_rfl) (by kernel_rfl) (by kernel_rfl) (fun _ _ _ h => h) (Or.inl ⟨by rfl, ?_⟩) X0 ?_
              · intro w6 s1
                go_simp
              simp only [Act.put, List.setIfInBounds_toArray, List.set_cons_zero, List.set_cons_succ]
              refine wpAnyH_done (by kernel_rfl) ?_ _
              exact HMI.out A9 c9 _ _ _ _ _ _ _ _ _ _ _ _ _ _ _ _ _ _ _ _ _ R9.out B0
            · skip
              refine step_open rfl ?_
              go_simp
              go_at_call 22
              (with_reducible refine (N5.out _).mono ?_)
              rintro r5 v5m ⟨A5, c5, rfl, g1, g2, g3, b1⟩
              replace X0 := X0.below b1 X0.lt
              replace B0 := below_step B0 b1
              replace R1 := Lib.hid (R1.out.below b1)
              replace R2 := Lib.hid (R2.out.below b1)
              replace R3 := Lib.hid (R3.out.below b1)
              replace R4 := Lib.hid (R4.out.below b1)
              replace HM := HM.below b1 HM.lt
              have ln := L5.out
              simp only [ln] at g1
              try simp only [ln]
              have R5 := Lib.hid (Arg.of_row (n := 2) g3 ln.symm (by omega) g1 g2)
              clear b1 g1 g2 g3 ln
              refine hK5.out _ _ X0 (fun _ => ?_)
              clear hK5 K5
              refine wpAnyH_ready (rs := [1]) (by kernel_rfl) (by simp) ?_
              refine AllReadyH.cons (lit rfl) (fun K5 hK5 => ?_) AllReadyH.nil
              obtain ⟨v5mf, hcv, hsz, hcl, hgr⟩ := freeze_mark HM 4 4
              have RM := Lib.hid ((mark_of HM).same hsz hcl)
              refine step_open rfl ?_
              go_simp
              replace X0 := X0.grown hgr (by intro e; injection e with e; omega)
              replace B0 := B0.trans (below_only hgr (by omega) B0.size)
              replace R1 := Lib.hid (R1.out.same hsz hcl)
              replace R2 := Lib.hid (R2.out.same hsz hcl)
              replace R3 := Lib.hid (R3.out.same hsz hcl)
              replace R4 := Lib.hid (R4.out.same hsz hcl)
              replace R5 := Lib.hid (R5.out.same hsz hcl)
              clear HM hcv hsz hcl hgr
              refine hK5.out _ _ X0 (fun _ => ?_)
              clear hK5 K5
              refine wpAnyH_ready (rs := [18]) (by kernel_rfl) (by simp) ?_
              refine AllReadyH.cons (lit rfl) (fun K5 hK5 => ?_) AllReadyH.nil
              refine step_open rfl ?_
              go_simp
              obtain ⟨z1, hz1⟩ : ∃ x, v5mf.alloc (.cells #[.slice (some ⟨bm, 0, none⟩) 4 4, .slice A1 1 c1, .slice A2 8 c2, .slice A3 2 c3, .slice A4 2 c4, .slice A5 2 c5] 26) = x := ⟨_, rfl⟩
              try rw [hz1]
              have bz : Below v5mf.heap.size v5mf z1 := hz1 ▸ (Below.refl _ v5mf).alloc (Nat.le_refl _) _
              have Q1 : Hid (CellsA z1 (some ⟨v5mf.heap.size, 0, none⟩) 6 6 [⟨some ⟨bm, 0, none⟩, 4, 4, markL⟩, ⟨A1, 1, c1, n1⟩, ⟨A2, 8, c2, n2⟩, ⟨A3, 2, c3, n3⟩, ⟨A4, 2, c4, n4⟩, ⟨A5, 2, c5, n5⟩]) := Lib.hid (cells_of10 (w := z1) (B := v5mf.heap.size) (q := [⟨some ⟨bm, 0, none⟩, 4, 4, markL⟩, ⟨A1, 1, c1, n1⟩, ⟨A2, 8, c2, n2⟩, ⟨A3, 2, c3, n3⟩, ⟨A4, 2, c4, n4⟩, ⟨A5, 2, c5, n5⟩]) (by simp) (hz1 ▸ Has.made v5mf 26 _) (by
                intro y hy
                simp only [List.mem_cons, List.mem_nil_iff, or_false] at hy
                rcases hy with rfl | rfl | rfl | rfl | rfl | rfl
                · exact RM.out.below bz
                · exact R1.out.below bz
                · exact R2.out.below bz
                · exact R3.out.below bz
                · exact R4.out.below bz
                · exact R5.out.below bz
                ))
              replace X0 := X0.below bz X0.lt
              replace B0 := below_step B0 bz
              clear bz hz1 RM R1 R2 R3 R4 R5
              refine hK5.out _ _ X0 (fun _ => ?_)
              clear hK5 K5
              refine wpAnyH_ready (rs := [19]) (by kernel_rfl) (by simp) ?_
              refine AllReadyH.cons (lit rfl) (fun K5 hK5 => ?_) AllReadyH.nil
              refine step_open rfl ?_
              go_simp
              go_at_call 20
              (with_reducible refine (HCC.out _ _ _ _ _ Q1.out (by rw [HFL.out, HCL.out]; decide) (by decide)).mono ?_)
              rw [HFL.out]
              rintro r9 z2 ⟨A9, c9, rfl, g1, g2, g3, b1⟩
              replace X0 := X0.below b1 X0.lt
              replace B0 := below_step B0 b1
              have R9 := Lib.hid (Arg.of_row g3 rfl (by rw [HCL.out]; decide) g1 g2)
              clear b1 g1 g2 g3
              refine hK5.out _ _ X0 (fun _ => ?_)
              clear hK5 K5
              refine wpAnyH_take (i := 20) (v := .slice A9 cb.length c9) (lit rfl) (by kernel_rfl) (by kernel_rfl) (by kernel_rfl) (fun _ _ _ h => h) (Or.inl ⟨by rfl, ?_⟩) X0 ?_
              · intro w6 s1
                go_simp
              simp only [Act.put, List.setIfInBounds_toArray, List.set_cons_zero, List.set_cons_succ]
              refine wpAnyH_done (by kernel_rfl) ?_ _
              exact HMI.out A9 c9 _ _ _ _ _ _ _ _ _ _ _ _ _ _ _ _ _ _ _ _ _ R9.out B0
      · skip
        refine step_open rfl ?_
        go_simp
        go_at_call 22
        (with_reducible refine (N3.out _).mono ?_)
        rintro r3 v3 ⟨A3, c3, rfl, g1, g2, g3, b1⟩
        replace X0 := X0.below b1 X0.lt
        replace B0 := below_step B0 b1
        replace R1 := Lib.hid (R1.out.below b1)
        replace R2 := Lib.hid (R2.out.below b1)
        have ln := L3.out
        simp only [ln] at g1
        try simp only [ln]
        have R3 := Lib.hid (Arg.of_row (n := 2) g3 ln.symm (by omega) g1 g2)
        clear b1 g1 g2 g3 ln
        refine hK5.out _ _ X0 (fun _ => ?_)
        clear hK5 K5
        refine wpAnyH_ready (rs := [0, 14]) (by kernel_rfl) (by simp) ?_
        refine AllReadyH.cons (lit rfl) (fun K5 hK5 => ?_) (AllReadyH.cons (lit rfl) (fun K5 hK5 => ?_) AllReadyH.nil)
        · skip
          refine step_open rfl ?_
          go_simp
          obtain ⟨v3m, hv3m⟩ : ∃ x, v3.alloc (.cells #[.int .u8 109, .int .u8 101, .int .u8 116, .int .u8 97] 5) = x := ⟨_, rfl⟩
          try rw [hv3m]
          have bv3m : Below v3.heap.size v3 v3m := hv3m ▸ (Below.refl _ v3).alloc (Nat.le_refl _) _
          have HM := hv3m ▸ Has.made v3 5 #[.int .u8 109, .int .u8 101, .int .u8 116, .int .u8 97]
          have hbm : w.heap.size < v3.heap.size := X0.lt
          replace X0 := X0.below bv3m X0.lt
          replace B0 := below_step B0 bv3m
          replace R1 := Lib.hid (R1.out.below bv3m)
          replace R2 := Lib.hid (R2.out.below bv3m)
          replace R3 := Lib.hid (R3.out.below bv3m)
          clear bv3m hv3m
          generalize v3.heap.size = bm at HM hbm ⊢
          refine hK5.out _ _ X0 (fun _ => ?_)
          clear hK5 K5
          refine wpAnyH_ready (rs := [1, 14]) (by kernel_rfl) (by simp) ?_
          refine AllReadyH.cons (lit rfl) (fun K5 hK5 => ?_) (AllReadyH.cons (lit rfl) (fun K5 hK5 => ?_) AllReadyH.nil)
          · skip
            obtain ⟨v3mf, hcv, hsz, hcl, hgr⟩ := freeze_mark HM 4 4
            have RM := Lib.hid ((mark_of HM).same hsz hcl)
            refine step_open rfl ?_
            go_simp
            replace X0 := X0.grown hgr (by intro e; injection e with e; omega)
            replace B0 := B0.trans (below_only hgr (by omega) B0.size)
            replace R1 := Lib.hid (R1.out.same hsz hcl)
            replace R2 := Lib.hid (R2.out.same hsz hcl)
            replace R3 := Lib.hid (R3.out.same hsz hcl)
            clear HM hcv hsz hcl hgr
            refine hK5.out _ _ X0 (fun _ => ?_)
            clear hK5 K5
            refine wpAnyH_ready (rs := [14]) (by kernel_rfl) (by simp) ?_
            refine AllReadyH.cons (lit rfl) (fun K5 hK5 => ?_) AllReadyH.nil
            refine step_open rfl ?_
            go_simp
            go_at_call 22
            (with_reducible refine (N4.out _).mono ?_)
            rintro r4 v4mf ⟨A4, c4, rfl, g1, g2, g3, b1⟩
            replace X0 := X0.below b1 X0.lt
            replace B0 := below_step B0 b1
            replace R1 := Lib.hid (R1.out.below b1)
            replace R2 := Lib.hid (R2.out.below b1)
            replace R3 := Lib.hid (R3.out.below b1)
            replace RM := Lib.hid (RM.out.below b1)
            have ln := L4.out
            simp only [ln] at g1
            try simp only [ln]
            have R4 := Lib.hid (Arg.of_row (n := 2) g3 ln.symm (by omega) g1 g2)
            clear b1 g1 g2 g3 ln
            refine hK5.out _ _ X0 (fun _ => ?_)
            clear hK5 K5
            refine wpAnyH_ready (rs := [17]) (by kernel_rfl) (by simp) ?_
            refine AllReadyH.cons (lit rfl) (fun K5 hK5 => ?_) AllReadyH.nil
            refine step_open rfl ?_
            go_simp
            go_at_call 22
            (with_reducible refine (N5.out _).mono ?_)
            rintro r5 v5mf ⟨A5, c5, rfl, g1, g2, g3, b1⟩
            replace X0 := X0.below b1 X0.lt
            replace B0 := below_step B0 b1
            replace R1 := Lib.hid (R1.out.below b1)
            replace R2 := Lib.hid (R2.out.below b1)
            replace R3 := Lib.hid (R3.out.below b1)
            replace R4 := Lib.hid (R4.out.below b1)
            replace RM := Lib.hid (RM.out.below b1)
            have ln := L5.out
            simp only [ln] at g1
            try simp only [ln]
            have R5 := Lib.hid (Arg.of_row (n := 2) g3 ln.symm (by omega) g1 g2)
            clear b1 g1 g2 g3 ln
            refine hK5.out _ _ X0 (fun _ => ?_)
            clear hK5 K5
            refine wpAnyH_ready (rs := [18]) (by kernel_rfl) (by simp) ?_
            refine AllReadyH.cons (lit rfl) (fun K5 hK5 => ?_) AllReadyH.nil
            refine step_open rfl ?_
            go_simp
            obtain ⟨z1, hz1⟩ : ∃ x, v5mf.alloc (.cells #[.slice (some ⟨bm, 0, none⟩) 4 4, .slice A1 1 c1, .slice A2 8 c2, .slice A3 2 c3, .slice A4 2 c4, .slice A5 2 c5] 26) = x := ⟨_, rfl⟩
            try rw [hz1]
            have bz : Below v5mf.heap.size v5mf z1 := hz1 ▸ (Below.refl _ v5mf).alloc (Nat.le_refl _) _
            have Q1 : Hid (CellsA z1 (some ⟨v5mf.heap.size, 0, none⟩) 6 6 [⟨some ⟨bm, 0, none⟩, 4, 4, markL⟩, ⟨A1, 1, c1, n1⟩, ⟨A2, 8, c2, n2⟩, ⟨A3, 2, c3, n3⟩, ⟨A4, 2, c4, n4⟩, ⟨A5, 2, c5, n5⟩]) := Lib.hid (cells_of10 (w := z1) (B := v5mf.heap.size) (q := [⟨some ⟨bm, 0, none⟩, 4, 4, markL⟩, ⟨A1, 1, c1, n1⟩, ⟨A2, 8, c2, n2⟩, ⟨A3, 2, c3, n3⟩, ⟨A4, 2, c4, n4⟩, ⟨A5, 2, c5, n5⟩]) (by simp) (hz1 ▸ Has.made v5mf 26 _) (by
              intro y hy
              simp only [List.mem_cons, List.mem_nil_iff, or_false] at hy
              rcases hy with rfl | rfl | rfl | rfl | rfl | rfl
              · exact RM.out.below bz
              · exact R1.out.below bz
              · exact R2.out.below bz
              · exact R3.out.below bz
              · exact R4.out.below bz
              · exact R5.out.below bz
              ))
            replace X0 := X0.below bz X0.lt
            replace B0 := below_step B0 bz
            clear bz hz1 RM R1 R2 R3 R4 R5
            refine hK5.out _ _ X0 (fun _ => ?_)
            clear hK5 K5
            refine wpAnyH_ready (rs := [19]) (by kernel_rfl) (by simp) ?_
            refine AllReadyH.cons (lit rfl) (fun K5 hK5 => ?_) AllReadyH.nil
            refine step_open rfl ?_
            go_simp
            go_at_call 20
            (with_reducible refine (HCC.out _ _ _ _ _ Q1.out (by rw [HFL.out, HCL.out]; decide) (by decide)).mono ?_)
            rw [HFL.out]
            rintro r9 z2 ⟨A9, c9, rfl, g1, g2, g3, b1⟩
            replace X0 := X0.below b1 X0.lt
            replace B0 := below_step B0 b1
            have R9 := Lib.hid (Arg.of_row g3 rfl (by rw [HCL.out]; decide) g1 g2)
            clear b1 g1 g2 g3
            refine hK5.out _ _ X0 (fun _ => ?_)
            clear hK5 K5
            refine wpAnyH_take (i := 20) (v := .slice A9 cb.length c9) (lit rfl) (by kernel_rfl) (by kernel_rfl) (by kernel_rfl) (fun _ _ _ h => h) (Or.inl ⟨by rfl, ?_⟩) X0 ?_
            · intro w6 s1
              go_simp
            simp only [Act.put, List.setIfInBounds_toArray, List.set_cons_zero, List.set_cons_succ]
            refine wpAnyH_done (by kernel_rfl) ?_ _
            exact HMI.out A9 c9 _ _ _ _ _ _ _ _ _ _ _ _ _ _ _ _ _ _ _ _ _ R9.out B0
          · skip
            refine step_open rfl ?_
            go_simp
            go_at_call 22
            (with_reducible refine (N4.out _).mono ?_)
            rintro r4 v4m ⟨A4, c4, rfl, g1, g2, g3, b1⟩
            replace X0 := X0.below b1 X0.lt
            replace B0 := below_step B0 b1
            replace R1 := Lib.hid (R1.out.below b1)
            replace R2 := Lib.hid (R2.out.below b1)
            replace R3 := Lib.hid (R3.out.below b1)
            replace HM := HM.below b1 HM.lt
            have ln := L4.out
            simp only [ln] at g1
            try simp only [ln]
            have R4 := Lib.hid (Arg.of_row (n := 2) g3 ln.symm (by omega) g1 g2)
            clear b1 g1 g2 g3 ln
            refine hK5.out _ _ X0 (fun _ => ?_)
            clear hK5 K5
            refine wpAnyH_ready (rs := [1, 17]) (by kernel_rfl) (by simp) ?_
            refine AllReadyH.cons (lit rfl) (fun K5 hK5 => ?_) (AllReadyH.cons (lit rfl) (fun K5 hK5 => ?_) AllReadyH.nil)
            · skip
              obtain ⟨v4mf, hcv, hsz, hcl, hgr⟩ := freeze_mark HM 4 4
              have RM := Lib.hid ((mark_of HM).same hsz hcl)
              refine step_open rfl ?_
              go_simp
              replace X0 := X0.grown hgr (by intro e; injection e with e; omega)
              replace B0 := B0.trans (below_only hgr (by omega) B0.size)
              replace R1 := Lib.hid (R1.out.same hsz hcl)
              replace R2 := Lib.hid (R2.out.same hsz hcl)
              replace R3 := Lib.hid (R3.out.same hsz hcl)
              replace R4 := Lib.hid (R4.out.same hsz hcl)
              clear HM hcv hsz hcl hgr
              refine hK5.out _ _ X0 (fun _ => ?_)
              clear hK5 K5
              refine wpAnyH_ready (rs := [17]) (by kernel_rfl) (by simp) ?_
              refine AllReadyH.cons (lit rfl) (fun K5 hK5 => ?_) AllReadyH.nil
              refine step_open rfl ?_
              go_simp
              go_at_call 22
              (with_reducible refine (N5.out _).mono ?_)
              rintro r5 v5mf ⟨A5, c5, rfl, g1, g2, g3, b1⟩
              replace X0 := X0.below b1 X0.lt
              replace B0 := below_step B0 b1
              replace R1 := Lib.hid (R1.out.below b1)
              replace R2 := Lib.hid (R2.out.below b1)
              replace R3 := Lib.hid (R3.out.below b1)
              replace R4 := Lib.hid (R4.out.below b1)
              replace RM := Lib.hid (RM.out.below b1)
              have ln := L5.out
              simp only [ln] at g1
              try simp only [ln]
              have R5 := Lib.hid (Arg.of_row (n := 2) g3 ln.symm (by omega) g1 g2)
              clear b1 g1 g2 g3 ln
              refine hK5.out _ _ X0 (fun _ => ?_)
              clear hK5 K5
              refine wpAnyH_ready (rs := [18]) (by kernel_rfl) (by simp) ?_
              refine AllReadyH.cons (lit rfl) (fun K5 hK5 => ?_) AllReadyH.nil
              refine step_open rfl ?_
              go_simp
              obtain ⟨z1, hz1⟩ : ∃ x, v5mf.alloc (.cells #[.slice (some ⟨bm, 0, none⟩) 4 4, .slice A1 1 c1, .slice A2 8 c2, .slice A3 2 c3, .slice A4 2 c4, .slice A5 2 c5] 26) = x := ⟨_, rfl⟩
              try rw [hz1]
              have bz : Below v5mf.heap.size v5mf z1 := hz1 ▸ (Below.refl _ v5mf).alloc (Nat.le_refl _) _
              have Q1 : Hid (CellsA z1 (some ⟨v5mf.heap.size, 0, none⟩) 6 6 [⟨some ⟨bm, 0, none⟩, 4, 4, markL⟩, ⟨A1, 1, c1, n1⟩, ⟨A2, 8, c2, n2⟩, ⟨A3, 2, c3, n3⟩, ⟨A4, 2, c4, n4⟩, ⟨A5, 2, c5, n5⟩]) := Lib.hid (cells_of10 (w := z1) (B := v5mf.heap.size) (q := [⟨some ⟨bm, 0, none⟩, 4, 4, markL⟩, ⟨A1, 1, c1, n1⟩, ⟨A2, 8, c2, n2⟩, ⟨A3, 2, c3, n3⟩, ⟨A4, 2, c4, n4⟩, ⟨A5, 2, c5, n5⟩]) (by simp) (hz1 ▸ Has.made v5mf 26 _) (by
                intro y hy
                simp only [List.mem_cons, List.mem_nil_iff, or_false] at hy
                rcases hy with rfl | rfl | rfl | rfl | rfl | rfl
                · exact RM.out.below bz
                · exact R1.out.below bz
                · exact R2.out.below bz
                · exact R3.out.below bz
                · exact R4.out.below bz
                · exact R5.out.below bz
                ))
              replace X0 := X0.below bz X0.lt
              replace B0 := below_step B0 bz
              clear bz hz1 RM R1 R2 R3 R4 R5
              refine hK5.out _ _ X0 (fun _ => ?_)
              clear hK5 K5
              refine wpAnyH_ready (rs := [19]) (by kernel_rfl) (by simp) ?_
              refine AllReadyH.cons (lit rfl) (fun K5 hK5 => ?_) AllReadyH.nil
              refine step_open rfl ?_
              go_simp
              go_at_call 20
              (with_reducible refine (HCC.out _ _ _ _ _ Q1.out (by rw [HFL.out, HCL.out]; decide) (by decide)).mono ?_)
              rw [HFL.out]
              rintro r9 z2 ⟨A9, c9, rfl, g1, g2, g3, b1⟩
              replace X0 := X0.below b1 X0.lt
              replace B0 := below_step B0 b1
              have R9 := Lib.hid (Arg.of_row g3 rfl (by rw [HCL.out]; decide) g1 g2)
              clear b1 g1 g2 g3
              refine hK5.out _ _ X0 (fun _ => ?_)
              clear hK5 K5
              refine wpAnyH_take (i := 20) (v := .slice A9 cb.length c9) (lit rfl) (by kernel_rfl) (by kernel_rfl) (by kernel_rfl) (fun _ _ _ h => h) (Or.inl ⟨by rfl, ?_⟩) X0 ?_
              · intro w6 s1
                go_simp
              simp only [Act.put, List.setIfInBounds_toArray, List.set_cons_zero, List.set_cons_succ]
              refine wpAnyH_done (by kernel_rfl) ?_ _
              exact HMI.out A9 c9 _ _ _ _ _ _ _ _ _ _ _ _ _ _ _ _ _ _ _ _ _ R9.out B0
            · skip
              refine step_open rfl ?_
              go_simp
              go_at_call 22
              (with_reducible refine (N5.out _).mono ?_)
              rintro r5 v5m ⟨A5, c5, rfl, g1, g2, g3, b1⟩
              replace X0 := X0.below b1 X0.lt
              replace B0 := below_step B0 b1
              replace R1 := Lib.hid (R1.out.below b1)
              replace R2 := Lib.hid (R2.out.below b1)
              replace R3 := Lib.hid (R3.out.below b1)
              replace R4 := Lib.hid (R4.out.below b1)
              replace HM := HM.below b1 HM.lt
              have ln := L5.out
              simp only [ln] at g1
              try simp only [ln]
              have R5 := Lib.hid (Arg.of_row (n := 2) g3 ln.symm (by omega) g1 g2)
              clear b1 g1 g2 g3 ln
              refine hK5.out _ _ X0 (fun _ => ?_)
              clear hK5 K5
              refine wpAnyH_ready (rs := [1]) (by kernel_rfl) (by simp) ?_
              refine AllReadyH.cons (lit rfl) (fun K5 hK5 => ?_) AllReadyH.nil
              obtain ⟨v5mf, hcv, hsz, hcl, hgr⟩ := freeze_mark HM 4 4
              have RM := Lib.hid ((mark_of HM).same hsz hcl)
              refine step_open rfl ?_
              go_simp
              replace X0 := X0.grown hgr (by intro e; injection e with e; omega)
              replace B0 := B0.trans (below_only hgr (by omega) B0.size)
              replace R1 := Lib.hid (R1.out.same hsz hcl)
              replace R2 := Lib.hid (R2.out.same hsz hcl)
              replace R3 := Lib.hid (R3.out.same hsz hcl)
              replace R4 := Lib.hid (R4.out.same hsz hcl)
              replace R5 := Lib.hid (R5.out.same hsz hcl)
              clear HM hcv hsz hcl hgr
              refine hK5.out _ _ X0 (fun _ => ?_)
              clear hK5 K5
              refine wpAnyH_ready (rs := [18]) (by kernel_rfl) (by simp) ?_
              refine AllReadyH.cons (lit rfl) (fun K5 hK5 => ?_) AllReadyH.nil
              refine step_open rfl ?_
              go_simp
              obtain ⟨z1, hz1⟩ : ∃ x, v5mf.alloc (.cells #[.slice (some ⟨bm, 0, none⟩) 4 4, .slice A1 1 c1, .slice A2 8 c2, .slice A3 2 c3, .slice A4 2 c4, .slice A5 2 c5] 26) = x := ⟨_, rfl⟩
              try rw [hz1]
              have bz : Below v5mf.heap.size v5mf z1 := hz1 ▸ (Below.refl _ v5mf).alloc (Nat.le_refl _) _
              have Q1 : Hid (CellsA z1 (some ⟨v5mf.heap.size, 0, none⟩) 6 6 [⟨some ⟨bm, 0, none⟩, 4, 4, markL⟩, ⟨A1, 1, c1, n1⟩, ⟨A2, 8, c2, n2⟩, ⟨A3, 2, c3, n3⟩, ⟨A4, 2, c4, n4⟩, ⟨A5, 2, c5, n5⟩]) := Lib.hid (cells_of10 (w := z1) (B := v5mf.heap.size) (q := [⟨some ⟨bm, 0, none⟩, 4, 4, markL⟩, ⟨A1, 1, c1, n1⟩, ⟨A2, 8, c2, n2⟩, ⟨A3, 2, c3, n3⟩, ⟨A4, 2, c4, n4⟩, ⟨A5, 2, c5, n5⟩]) (by simp) (hz1 ▸ Has.made v5mf 26 _) (by
                intro y hy
                simp only [List.mem_cons, List.mem_nil_iff, or_false] at hy
                rcases hy with rfl | rfl | rfl | rfl | rfl | rfl
                · exact RM.out.below bz
                · exact R1.out.below bz
                · exact R2.out.below bz
                · exact R3.out.below bz
                · exact R4.out.below bz
                · exact R5.out.below bz
                ))
              replace X0 := X0.below bz X0.lt
              replace B0 := below_step B0 bz
              clear bz hz1 RM R1 R2 R3 R4 R5
              refine hK5.out _ _ X0 (fun _ => ?_)
              clear hK5 K5
              refine wpAnyH_ready (rs := [19]) (by kernel_rfl) (by simp) ?_
              refine AllReadyH.cons (lit rfl) (fun K5 hK5 => ?_) AllReadyH.nil
              refine step_open rfl ?_
              go_simp
              go_at_call 20
              (with_reducible refine (HCC.out _ _ _ _ _ Q1.out (by rw [HFL.out, HCL.out]; decide) (by decide)).mono ?_)
              rw [HFL.out]
              rintro r9 z2 ⟨A9, c9, rfl, g1, g2, g3, b1⟩
              replace X0 := X0.below b1 X0.lt
              replace B0 := below_step B0 b1
              have R9 := Lib.hid (Arg.of_row g3 rfl (by rw [HCL.out]; decide) g1 g2)
              clear b1 g1 g2 g3
              refine hK5.out _ _ X0 (fun _ => ?_)
              clear hK5 K5
              refine wpAnyH_take (i := 20) (v := .slice A9 cb.length c9) (lit rfl) (by kernel_rfl) (by kernel_rfl) (by kernel_rfl) (fun _ _ _ h => h) (Or.inl ⟨by rfl, ?_⟩) X0 ?_
              · intro w6 s1
                go_simp
              simp only [Act.put, List.setIfInBounds_toArray, List.set_cons_zero, List.set_cons_succ]
              refine wpAnyH_done (by kernel_rfl) ?_ _
              exact HMI.out A9 c9 _ _ _ _ _ _ _ _ _ _ _ _ _ _ _ _ _ _ _ _ _ R9.out B0
        · skip
          refine step_open rfl ?_
          go_simp
          go_at_call 22
          (with_reducible refine (N4.out _).mono ?_)
          rintro r4 v4 ⟨A4, c4, rfl, g1, g2, g3, b1⟩
          replace X0 := X0.below b1 X0.lt
          replace B0 := below_step B0 b1
          replace R1 := Lib.hid (R1.out.below b1)
          replace R2 := Lib.hid (R2.out.below b1)
          replace R3 := Lib.hid (R3.out.below b1)
          have ln := L4.out
          simp only [ln] at g1
          try simp only [ln]
          have R4 := Lib.hid (Arg.of_row (n := 2) g3 ln.symm (by omega) g1 g2)
          clear b1 g1 g2 g3 ln
          refine hK5.out _ _ X0 (fun _ => ?_)
          clear hK5 K5
          refine wpAnyH_ready (rs := [0, 17]) (by kernel_rfl) (by simp) ?_
          refine AllReadyH.cons (lit rfl) (fun K5 hK5 => ?_) (AllReadyH.cons (lit rfl) (fun K5 hK5 => ?_) AllReadyH.nil)
          · skip
            refine step_open rfl ?_
            go_simp
            obtain ⟨v4m, hv4m⟩ : ∃ x, v4.alloc (.cells #[.int .u8 109, .int .u8 101, .int .u8 116, .int .u8 97] 5) = x := ⟨_, rfl⟩
            try rw [hv4m]
            have bv4m : Below v4.heap.size v4 v4m := hv4m ▸ (Below.refl _ v4).alloc (Nat.le_refl _) _
            have HM := hv4m ▸ Has.made v4 5 #[.int .u8 109, .int .u8 101, .int .u8 116, .int .u8 97]
            have hbm : w.heap.size < v4.heap.size := X0.lt
            replace X0 := X0.below bv4m X0.lt
            replace B0 := below_step B0 bv4m
            replace R1 := Lib.hid (R1.out.below bv4m)
            replace R2 := Lib.hid (R2.out.below bv4m)
            replace R3 := Lib.hid (R3.out.below bv4m)
            replace R4 := Lib.hid (R4.out.below bv4m)
            clear bv4m hv4m
            generalize v4.heap.size = bm at HM hbm ⊢
            refine hK5.out _ _ X0 (fun _ => ?_)
            clear hK5 K5
            refine wpAnyH_ready (rs := [1, 17]) (by kernel_rfl) (by simp) ?_
            refine AllReadyH.cons (lit rfl) (fun K5 hK5 => ?_) (AllReadyH.cons (lit rfl) (fun K5 hK5 => ?_) AllReadyH.nil)
            · skip
              obtain ⟨v4mf, hcv, hsz, hcl, hgr⟩ := freeze_mark HM 4 4
              have RM := Lib.hid ((mark_of HM).same hsz hcl)
              refine step_open rfl ?_
              go_simp
              replace X0 := X0.grown hgr (by intro e; injection e with e; omega)
              replace B0 := B0.trans (below_only hgr (by omega) B0.size)
              replace R1 := Lib.hid (R1.out.same hsz hcl)
              replace R2 := Lib.hid (R2.out.same hsz hcl)
              replace R3 := Lib.hid (R3.out.same hsz hcl)
              replace R4 := Lib.hid (R4.out.same hsz hcl)
              clear HM hcv hsz hcl hgr
              refine hK5.out _ _ X0 (fun _ => ?_)
              clear hK5 K5
              refine wpAnyH_ready (rs := [17]) (by kernel_rfl) (by simp) ?_
              refine AllReadyH.cons (lit rfl) (fun K5 hK5 => ?_) AllReadyH.nil
              refine step_open rfl ?_
              go_simp
              go_at_call 22
              (with_reducible refine (N5.out _).mono ?_)
              rintro r5 v5mf ⟨A5, c5, rfl, g1, g2, g3, b1⟩
              replace X0 := X0.below b1 X0.lt
              replace B0 := below_step B0 b1
              replace R1 := Lib.hid (R1.out.below b1)
              replace R2 := Lib.hid (R2.out.below b1)
              replace R3 := Lib.hid (R3.out.below b1)
              replace R4 := Lib.hid (R4.out.below b1)
              replace RM := Lib.hid (RM.out.below b1)
              have ln := L5.out
              simp only [ln] at g1
              try simp only [ln]
              have R5 := Lib.hid (Arg.of_row (n := 2) g3 ln.symm (by omega) g1 g2)
              clear b1 g1 g2 g3 ln
              refine hK5.out _ _ X0 (fun _ => ?_)
              clear hK5 K5
              refine wpAnyH_ready (rs := [18]) (by kernel_rfl) (by simp) ?_
              refine AllReadyH.cons (lit rfl) (fun K5 hK5 => ?_) AllReadyH.nil
              refine step_open rfl ?_
              go_simp
              obtain ⟨z1, hz1⟩ : ∃ x, v5mf.alloc (.cells #[.slice (some ⟨bm, 0, none⟩) 4 4, .slice A1 1 c1, .slice A2 8 c2, .slice A3 2 c3, .slice A4 2 c4, .slice A5 2 c5] 26) = x := ⟨_, rfl⟩
              try rw [hz1]
              have bz : Below v5mf.heap.size v5mf z1 := hz1 ▸ (Below.refl _ v5mf).alloc (Nat.le_refl _) _
              have Q1 : Hid (CellsA z1 (some ⟨v5mf.heap.size, 0, none⟩) 6 6 [⟨some ⟨bm, 0, none⟩, 4, 4, markL⟩, ⟨A1, 1, c1, n1⟩, ⟨A2, 8, c2, n2⟩, ⟨A3, 2, c3, n3⟩, ⟨A4, 2, c4, n4⟩, ⟨A5, 2, c5, n5⟩]) := Lib.hid (cells_of10 (w := z1) (B := v5mf.heap.size) (q := [⟨some ⟨bm, 0, none⟩, 4, 4, markL⟩, ⟨A1, 1, c1, n1⟩, ⟨A2, 8, c2, n2⟩, ⟨A3, 2, c3, n3⟩, ⟨A4, 2, c4, n4⟩, ⟨A5, 2, c5, n5⟩]) (by simp) (hz1 ▸ Has.made v5mf 26 _) (by
                intro y hy
                simp only [List.mem_cons, List.mem_nil_iff, or_false] at hy
                rcases hy with rfl | rfl | rfl | rfl | rfl | rfl
                · exact RM.out.below bz
                · exact R1.out.below bz
                · exact R2.out.below bz
                · exact R3.out.below bz
                · exact R4.out.below bz
                · exact R5.out.below bz
                ))
              replace X0 := X0.below bz X0.lt
              replace B0 := below_step B0 bz
              clear bz hz1 RM R1 R2 R3 R4 R5
              refine hK5.out _ _ X0 (fun _ => ?_)
              clear hK5 K5
              refine wpAnyH_ready (rs := [19]) (by kernel_rfl) (by simp) ?_
              refine AllReadyH.cons (lit rfl) (fun K5 hK5 => ?_) AllReadyH.nil
              refine step_open rfl ?_
              go_simp
              go_at_call 20
              (with_reducible refine (HCC.out _ _ _ _ _ Q1.out (by rw [HFL.out, HCL.out]; decide) (by decide)).mono ?_)
              rw [HFL.out]
              rintro r9 z2 ⟨A9, c9, rfl, g1, g2, g3, b1⟩
              replace X0 := X0.below b1 X0.lt
              replace B0 := below_step B0 b1
              have R9 := Lib.hid (Arg.of_row g3 rfl (by rw [HCL.out]; decide) g1 g2)
              clear b1 g1 g2 g3
              refine hK5.out _ _ X0 (fun _ => ?_)
              clear hK5 K5
              refine wpAnyH_take (i := 20) (v := .slice A9 cb.length c9) (lit rfl) (by kernel_rfl) (by kernel_rfl) (by kernel_rfl) (fun _ _ _ h => h) (Or.inl ⟨by rfl, ?_⟩) X0 ?_
              · intro w6 s1
                go_simp
              simp only [Act.put, List.setIfInBounds_toArray, List.set_cons_zero, List.set_cons_succ]
              refine wpAnyH_done (by kernel_rfl) ?_ _
              exact HMI.out A9 c9 _ _ _ _ _ _ _ _ _ _ _ _ _ _ _ _ _ _ _ _ _ R9.out B0
            · skip
              refine step_open rfl ?_
              go_simp
              go_at_call 22
              (with_reducible refine (N5.out _).mono ?_)
              rintro r5 v5m ⟨A5, c5, rfl, g1, g2, g3, b1⟩
              replace X0 := X0.below b1 X0.lt
              replace B0 := below_step B0 b1
              replace R1 := Lib.hid (R1.out.below b1)
              replace R2 := Lib.hid (R2.out.below b1)
              replace R3 := Lib.hid (R3.out.below b1)
              replace R4 := Lib.hid (R4.out.below b1)
              replace HM := HM.below b1 HM.lt
              have ln := L5.out
              simp only [ln] at g1
              try simp only [ln]
              have R5 := Lib.hid (Arg.of_row (n := 2) g3 ln.symm (by omega) g1 g2)
              clear b1 g1 g2 g3 ln
              refine hK5.out _ _ X0 (fun _ => ?_)
              clear hK5 K5
              refine wpAnyH_ready (rs := [1]) (by kernel_rfl) (by simp) ?_
              refine AllReadyH.cons (lit rfl) (fun K5 hK5 => ?_) AllReadyH.nil
              obtain ⟨v5mf, hcv, hsz, hcl, hgr⟩ := freeze_mark HM 4 4
              have RM := Lib.hid ((mark_of HM).same hsz hcl)
              refine step_open rfl ?_
              go_simp
              replace X0 := X0.grown hgr (by intro e; injection e with e; omega)
              replace B0 := B0.trans (below_only hgr (by omega) B0.size)
              replace R1 := Lib.hid (R1.out.same hsz hcl)
              replace R2 := Lib.hid (R2.out.same hsz hcl)
              replace R3 := Lib.hid (R3.out.same hsz hcl)
              replace R4 := Lib.hid (R4.out.same hsz hcl)
              replace R5 := Lib.hid (R5.out.same hsz hcl)
              clear HM hcv hsz hcl hgr
              refine hK5.out _ _ X0 (fun _ => ?_)
              clear hK5 K5
              refine wpAnyH_ready (rs := [18]) (by kernel_rfl) (by simp) ?_
              refine AllReadyH.cons (lit rfl) (fun K5 hK5 => ?_) AllReadyH.nil
              refine step_open rfl ?_
              go_simp
              obtain ⟨z1, hz1⟩ : ∃ x, v5mf.alloc (.cells #[.slice (some ⟨bm, 0, none⟩) 4 4, .slice A1 1 c1, .slice A2 8 c2, .slice A3 2 c3, .slice A4 2 c4, .slice A5 2 c5] 26) = x := ⟨_, rfl⟩
              try rw [hz1]
              have bz : Below v5mf.heap.size v5mf z1 := hz1 ▸ (Below.refl _ v5mf).alloc (Nat.le_refl _) _
              have Q1 : Hid (CellsA z1 (some ⟨v5mf.heap.size, 0, none⟩) 6 6 [⟨some ⟨bm, 0, none⟩, 4, 4, markL⟩, ⟨A1, 1, c1, n1⟩, ⟨A2, 8, c2, n2⟩, ⟨A3, 2, c3, n3⟩, ⟨A4, 2, c4, n4⟩, ⟨A5, 2, c5, n5⟩]) := Lib.hid (cells_of10 (w := z1) (B := v5mf.heap.size) (q := [⟨some ⟨bm, 0, none⟩, 4, 4, markL⟩, ⟨A1, 1, c1, n1⟩, ⟨A2, 8, c2, n2⟩, ⟨A3, 2, c3, n3⟩, ⟨A4, 2, c4, n4⟩, ⟨A5, 2, c5, n5⟩]) (by simp) (hz1 ▸ Has.made v5mf 26 _) (by
                intro y hy
                simp only [List.mem_cons, List.mem_nil_iff, or_false] at hy
                rcases hy with rfl | rfl | rfl | rfl | rfl | rfl
                · exact RM.out.below bz
                · exact R1.out.below bz
                · exact R2.out.below bz
                · exact R3.out.below bz
                · exact R4.out.below bz
                · exact R5.out.below bz
                ))
              replace X0 := X0.below bz X0.lt
              replace B0 := below_step B0 bz
              clear bz hz1 RM R1 R2 R3 R4 R5
              refine hK5.out _ _ X0 (fun _ => ?_)
              clear hK5 K5
              refine wpAnyH_ready (rs := [19]) (by kernel_rfl) (by simp) ?_
              refine AllReadyH.cons (lit rfl) (fun K5 hK5 => ?_) AllReadyH.nil
              refine step_open rfl ?_
              go_simp
              go_at_call 20
              (with_reducible refine (HCC.out _ _ _ _ _ Q1.out (by rw [HFL.out, HCL.out]; decide) (by decide)).mono ?_)
              rw [HFL.out]
              rintro r9 z2 ⟨A9, c9, rfl, g1, g2, g3, b1⟩
              replace X0 := X0.below b1 X0.lt
              replace B0 := below_step B0 b1
              have R9 := Lib.hid (Arg.of_row g3 rfl (by rw [HCL.out]; decide) g1 g2)
              clear b1 g1 g2 g3
              refine hK5.out _ _ X0 (fun _ => ?_)
              clear hK5 K5
              refine wpAnyH_take (i := 20) (v := .slice A9 cb.length c9) (lit rfl) (by kernel_rfl) (by kernel_rfl) (by kernel_rfl) (fun _ _ _ h => h) (Or.inl ⟨by rfl, ?_⟩) X0 ?_
              · intro w6 s1
                go_simp
              simp only [Act.put, List.setIfInBounds_toArray, List.set_cons_zero, List.set_cons_succ]
              refine wpAnyH_done (by kernel_rfl) ?_ _
              exact HMI.out A9 c9 _ _ _ _ _ _ _ _ _ _ _ _ _ _ _ _ _ _ _ _ _ R9.out B0
          · skip
            refine step_open rfl ?_
            go_simp
            go_at_call 22
            (with_reducible refine (N5.out _).mono ?_)
            rintro r5 v5 ⟨A5, c5, rfl, g1, g2, g3, b1⟩
            replace X0 := X0.below b1 X0.lt
            replace B0 := below_step B0 b1
            replace R1 := Lib.hid (R1.out.below b1)
            replace R2 := Lib.hid (R2.out.below b1)
            replace R3 := Lib.hid (R3.out.below b1)
            replace R4 := Lib.hid (R4.out.below b1)
            have ln := L5.out
            simp only [ln] at g1
            try simp only [ln]
            have R5 := Lib.hid (Arg.of_row (n := 2) g3 ln.symm (by omega) g1 g2)
            clear b1 g1 g2 g3 ln
            refine hK5.out _ _ X0 (fun _ => ?_)
            clear hK5 K5
            refine wpAnyH_ready (rs := [0]) (by kernel_rfl) (by simp) ?_
            refine AllReadyH.cons (lit rfl) (fun K5 hK5 => ?_) AllReadyH.nil
            refine step_open rfl ?_
            go_simp
            obtain ⟨v5m, hv5m⟩ : ∃ x, v5.alloc (.cells #[.int .u8 109, .int .u8 101, .int .u8 116, .int .u8 97] 5) = x := ⟨_, rfl⟩
            try rw [hv5m]
            have bv5m : Below v5.heap.size v5 v5m := hv5m ▸ (Below.refl _ v5).alloc (Nat.le_refl _) _
            have HM := hv5m ▸ Has.made v5 5 #[.int .u8 109, .int .u8 101, .int .u8 116, .int .u8 97]
            have hbm : w.heap.size < v5.heap.size := X0.lt
            replace X0 := X0.below bv5m X0.lt
            replace B0 := below_step B0 bv5m
            replace R1 := Lib.hid (R1.out.below bv5m)
            replace R2 := Lib.hid (R2.out.below bv5m)
            replace R3 := Lib.hid (R3.out.below bv5m)
            replace R4 := Lib.hid (R4.out.below bv5m)
            replace R5 := Lib.hid (R5.out.below bv5m)
            clear bv5m hv5m
            generalize v5.heap.size = bm at HM hbm ⊢
            refine hK5.out _ _ X0 (fun _ => ?_)
            clear hK5 K5
            refine wpAnyH_ready (rs := [1]) (by kernel_rfl) (by simp) ?_
            refine AllReadyH.cons (lit rfl) (fun K5 hK5 => ?_) AllReadyH.nil
            obtain ⟨v5mf, hcv, hsz, hcl, hgr⟩ := freeze_mark HM 4 4
            have RM := Lib.hid ((mark_of HM).same hsz hcl)
            refine step_open rfl ?_
            go_simp
            replace X0 := X0.grown hgr (by intro e; injection e with e; omega)
            replace B0 := B0.trans (below_only hgr (by omega) B0.size)
            replace R1 := Lib.hid (R1.out.same hsz hcl)
            replace R2 := Lib.hid (R2.out.same hsz hcl)
            replace R3 := Lib.hid (R3.out.same hsz hcl)
            replace R4 := Lib.hid (R4.out.same hsz hcl)
            replace R5 := Lib.hid (R5.out.same hsz hcl)
            clear HM hcv hsz hcl hgr
            refine hK5.out _ _ X0 (fun _ => ?_)
            clear hK5 K5
            refine wpAnyH_ready (rs := [18]) (by kernel_rfl) (by simp) ?_
            refine AllReadyH.cons (lit rfl) (fun K5 hK5 => ?_) AllReadyH.nil
            refine step_open rfl ?_
            go_simp
            obtain ⟨z1, hz1⟩ : ∃ x, v5mf.alloc (.cells #[.slice (some ⟨bm, 0, none⟩) 4 4, .slice A1 1 c1, .slice A2 8 c2, .slice A3 2 c3, .slice A4 2 c4, .slice A5 2 c5] 26) = x := ⟨_, rfl⟩
            try rw [hz1]
            have bz : Below v5mf.heap.size v5mf z1 := hz1 ▸ (Below.refl _ v5mf).alloc (Nat.le_refl _) _
            have Q1 : Hid (CellsA z1 (some ⟨v5mf.heap.size, 0, none⟩) 6 6 [⟨some ⟨bm, 0, none⟩, 4, 4, markL⟩, ⟨A1, 1, c1, n1⟩, ⟨A2, 8, c2, n2⟩, ⟨A3, 2, c3, n3⟩, ⟨A4, 2, c4, n4⟩, ⟨A5, 2, c5, n5⟩]) := Lib.hid (cells_of10 (w := z1) (B := v5mf.heap.size) (q := [⟨some ⟨bm, 0, none⟩, 4, 4, markL⟩, ⟨A1, 1, c1, n1⟩, ⟨A2, 8, c2, n2⟩, ⟨A3, 2, c3, n3⟩, ⟨A4, 2, c4, n4⟩, ⟨A5, 2, c5, n5⟩]) (by simp) (hz1 ▸ Has.made v5mf 26 _) (by
              intro y hy
              simp only [List.mem_cons, List.mem_nil_iff, or_false] at hy
              rcases hy with rfl | rfl | rfl | rfl | rfl | rfl
              · exact RM.out.below bz
              · exact R1.out.below bz
              · exact R2.out.below bz
              · exact R3.out.below bz
              · exact R4.out.below bz
              · exact R5.out.below bz
              ))
            replace X0 := X0.below bz X0.lt
            replace B0 := below_step B0 bz
            clear bz hz1 RM R1 R2 R3 R4 R5
            refine hK5.out _ _ X0 (fun _ => ?_)
            clear hK5 K5
            refine wpAnyH_ready (rs := [19]) (by kernel_rfl) (by simp) ?_
            refine AllReadyH.cons (lit rfl) (fun K5 hK5 => ?_) AllReadyH.nil
            refine step_open rfl ?_
            go_simp
            go_at_call 20
            (with_reducible refine (HCC.out _ _ _ _ _ Q1.out (by rw [HFL.out, HCL.out]; decide) (by decide)).mono ?_)
            rw [HFL.out]
            rintro r9 z2 ⟨A9, c9, rfl, g1, g2, g3, b1⟩
            replace X0 := X0.below b1 X0.lt
            replace B0 := below_step B0 b1
            have R9 := Lib.hid (Arg.of_row g3 rfl (by rw [HCL.out]; decide) g1 g2)
            clear b1 g1 g2 g3
            refine hK5.out _ _ X0 (fun _ => ?_)
            clear hK5 K5
            refine wpAnyH_take (i := 20) (v := .slice A9 cb.length c9) (lit rfl) (by kernel_rfl) (by kernel_rfl) (by kernel_rfl) (fun _ _ _ h => h) (Or.inl ⟨by rfl, ?_⟩) X0 ?_
            · intro w6 s1
              go_simp
            simp only [Act.put, List.setIfInBounds_toArray, List.set_cons_zero, List.set_cons_succ]
            refine wpAnyH_done (by kernel_rfl) ?_ _
            exact HMI.out A9 c9 _ _ _ _ _ _ _ _ _ _ _ _ _ _ _ _ _ _ _ _ _ R9.out B0

theorem mPut_yes (m : Mt) (w : World) (ht : Tab w) (hc : checkM m) (htx : m.txn < 18446744073709551616) : Calls Tryd.prog 9 #[mtV m] w (PackOk 5 [cellM m] w) := by
  obtain ⟨a0, a1, a2, a3, a4, a5, a6, a7, a8⟩ := checkM_few hc
  obtain ⟨label, txn, root, list, high⟩ := m
  simp only at a0 a1 a2 a3 a4 a5 a6 a7 a8 htx
  obtain ⟨lb, rfl⟩ : ∃ x : Nat, label = (x : Int) := ⟨label.toNat, by omega⟩
  obtain ⟨rt, rfl⟩ : ∃ x : Nat, root = (x : Int) := ⟨root.toNat, by omega⟩
  obtain ⟨ls, rfl⟩ : ∃ x : Nat, list = (x : Int) := ⟨list.toNat, by omega⟩
  obtain ⟨hg, rfl⟩ : ∃ x : Nat, high = (x : Int) := ⟨high.toNat, by omega⟩
  exact mPut_nat lb txn rt ls hg w ht hc htx
end Go.Proofs.YtpikcodnonodlaaDoor
