/- The walk of the law CellsBack; written by gen/ceback.py. -/
import Derived.Test.YtlehajpadiiicaaDoorCeUnpack
namespace Go.Proofs.YtlehajpadiiicaaDoor
open Go.RowKit
set_option linter.unusedVariables false

theorem xor_one (x : UInt8) : bits .xor .u8 (x.toNat : Int) 1 = ((x ^^^ 1).toNat : Int) := by
  have h := u8_xor_nat x.toNat 1 x.toNat_lt (by decide)
  rw [UInt8.toNat_xor]
  exact h
/-- A bit of a page is turned. -/
theorem row_turn {w : World} {lo c : Nat} {A : Option Addr} {l : List UInt8} (h : Row w 5 lo A (l.map byteV)) (hn : l.length = 128) (h1 : 128 ≤ c) (h2 : c ≤ maxLen) (at_ : Nat) (hat : at_ < l.length) :
    ∃ g off, A = some ⟨g, off, none⟩ ∧ lo ≤ g ∧ w.cell? ⟨g, off + at_, none⟩ = some (.int .u8 ((l[at_]).toNat : Int)) ∧ w.frozen? ⟨g, off + at_, none⟩ = false ∧
      Arg (w.setCell ⟨g, off + at_, none⟩ (.int .u8 ((l[at_] ^^^ 1).toNat : Int))) (some ⟨g, off, none⟩) 128 c (l.set at_ (l[at_] ^^^ 1)) := by
  obtain ⟨g, off, cs, rfl, hlo, hH, hcs⟩ := h (by rw [List.length_map]; omega)
  have hx := hcs at_ (byteV l[at_]) (by rw [List.getElem?_map, List.getElem?_eq_getElem hat]; rfl)
  refine ⟨g, off, rfl, hlo, by rw [hH.cell]; exact hx, hH.free _, ?_⟩
  have hS := hH.store (off + at_) (.int .u8 ((l[at_] ^^^ 1).toNat : Int))
  refine ⟨by rw [List.length_set]; exact hn.symm, fun _ => ⟨g, off, rfl, fun j u hj => ?_⟩, fun _ a ha => ?_, h1, h2, fun h => by cases h⟩
  · rw [hS.cell]
    rw [List.getElem?_map] at hj
    by_cases hja : j = at_
    · subst hja
      rw [List.getElem?_set_self hat] at hj
      have hlt : off + j < cs.size := (Array.getElem?_eq_some_iff.1 hx).1
      rw [Array.getElem?_setIfInBounds_self_of_lt hlt]
      exact hj
    · rw [List.getElem?_set_ne (fun e => hja e.symm), ← List.getElem?_map] at hj
      rw [Array.getElem?_setIfInBounds_ne (by omega)]
      exact hcs j u hj
  · injection ha with ha
    subst ha
    simpa [World.setCell] using hH.lt
/-- What Pack leaves, fit or not. -/
def PackAny (kind : UInt8) (ls : List (List UInt8)) (w : World) (e : Ending) (w' : World) : Prop :=
  ∃ A n c er, e = .returned (.tuple #[.slice A n c, .int .i64 er]) ∧ Below w.heap.size w w'
theorem cePack_any (kind : UInt8) (A : Option Addr) (n c : Nat) (q : List Hd) (w : World) (ht : Tab w) (h : CellsA w A n c q) (hf : Few q) :
    Calls Tryd.prog 10 #[.int .u8 (kind.toNat : Int), .slice A n c] w (PackAny kind (lq q) w) := by
  by_cases hy : cFits kind (lq q)
  · exact (cePack_yes kind A n c q w ht h hf hy).mono fun e w' ⟨A', c', he, _, _, _, hb⟩ => ⟨A', 128, c', 0, he, hb⟩
  · exact (cePack_no kind A n c q w h hf hy).mono fun e w' ⟨he, hb⟩ => ⟨none, 0, 0, 1, he, hb⟩
theorem same_any2 (A B : Option Addr) (n c m d : Nat) (l x : List (List UInt8)) (w : World) (v : Bool) (hv : sameB l x = v) (h : TxtA w A n l) (h' : TxtA w B m x) (hl : n ≤ 1000000) :
    Calls Tryd.prog 17 #[.slice A n c, .slice B m d] w (fun e w' => e = .returned (.bool v) ∧ Below w.heap.size w w') := by
  subst hv
  exact r7Same_any A B n c m d l x w h h' hl

set_option maxRecDepth 100000 in
set_option maxHeartbeats 8000000 in
/-- Cells that don't go into a page. -/
theorem ceBack_no (kind : UInt8) (A B : Option Addr) (n c m d : Nat) (q p : List Hd) (w : World) (ht : Tab w) (h : CellsA w A n c q) (k : CellsA w B m d p) (hs : smallB q = true) (hs' : smallB p = true) (hy : ¬ cFits kind (lq q)) :
    Calls Tryd.prog 5 #[.int .u8 (kind.toNat : Int), .slice A n c, .slice B m d] w fun e w' => e = .returned (.bool true) ∧ Below w.heap.size w w' := by
  have HT := Lib.hid ht
  have hf := small_few hs
  have hf' := small_few hs'
  have HSM := Lib.hid (fun w1 (hb : Below w.heap.size w w1) => small07_any A n c q w1 (h.below hb))
  have HSN := Lib.hid (fun w1 (hb : Below w.heap.size w w1) => small07_any B m d p w1 (k.below hb))
  rw [hs] at HSM
  rw [hs'] at HSN
  have HP := Lib.hid (fun w1 (hb : Below w.heap.size w w1) => cePack_no kind A n c q w1 (h.below hb) hf hy)
  have HQ := Lib.hid (fun w1 (hb : Below w.heap.size w w1) => cePack_any kind B m d p w1 (ht.below hb) (k.below hb) hf')
  have HZ := Lib.hid (fun w1 (hb : Below w.heap.size w w1) => ceSize_any A n c q w1 (h.below hb) hf)
  have hk : ((kind.toNat : Int) == 0) = true ∨ (((kind.toNat : Int) == 0) = false ∧ (122 : Int) < (cSz (lq q) : Int)) := by
    by_cases h0 : kind = 0
    · subst h0; exact .inl rfl
    · refine .inr ⟨beq_false_of_ne (fun e => h0 (UInt8.toNat_inj.1 (by simpa using e))), ?_⟩
      unfold cFits at hy
      have : ¬ cSz (lq q) ≤ 122 := fun e => hy ⟨h0, e⟩
      omega
  clear ht h k hs hs' hy hf hf'
  generalize cSz (lq q) = sz at *
  rcases hk with hk | ⟨hk, hz⟩
  all_goals
    go_enter Tryd.func5, Tryd.ntmps5
    go_wp2_with (first
      | (go_at_call 8; (with_reducible refine (awake07_any _ HT.out).mono ?_); rintro e w0 ⟨rfl, h0⟩; have B0 := Lib.hid h0; clear h0)
      | (go_at_call 9; (with_reducible refine (HSM.out _ B0.out).mono ?_); rintro e w1 ⟨rfl, rfl⟩)
      | (go_at_call 9; (with_reducible refine (HSN.out _ B0.out).mono ?_); rintro e w1 ⟨rfl, rfl⟩)
      | (go_at_call 10; (with_reducible refine (HP.out _ B0.out).mono ?_); rintro e w2 ⟨rfl, b2⟩; have B2 := Lib.hid (below_step B0.out b2); clear b2)
      | (go_at_call 10; (with_reducible refine (HQ.out _ B2.out).mono ?_); rintro e w3 ⟨A3, n3, c3, er3, rfl, b3⟩; have B3 := Lib.hid (below_step B2.out b3); clear b3)
      | (go_at_call 13; (with_reducible refine (HZ.out _ B3.out).mono ?_); rintro e w4 ⟨rfl, rfl⟩))
    go_ret
    exact ⟨rfl, B3.out⟩

set_option maxRecDepth 100000 in
set_option maxHeartbeats 8000000 in
theorem ceBack_one (kind : UInt8) (A B : Option Addr) (n c m d : Nat) (q p : List Hd) (w : World) (ht : Tab w) (h : CellsA w A n c q) (k : CellsA w B m d p) (hs : smallB q = true) (hs' : smallB p = true) (hy : cFits kind (lq q)) (hz : ¬ cFits kind (lq p)) :
    Calls Tryd.prog 5 #[.int .u8 (kind.toNat : Int), .slice A n c, .slice B m d] w fun e w' => e = .returned (.bool true) ∧ Below w.heap.size w w' := by
  have hmx : Tryd.prog.follows .mixedOrders = true := by kernel_rfl
  have HT := Lib.hid ht
  have HA := Lib.hid h
  have HK := Lib.hid k
  have hf := small_few hs
  have hf' := small_few hs'
  have HSM := Lib.hid (fun w1 (hb : Below w.heap.size w w1) => small07_any A n c q w1 (h.below hb))
  have HSN := Lib.hid (fun w1 (hb : Below w.heap.size w w1) => small07_any B m d p w1 (k.below hb))
  rw [hs] at HSM
  rw [hs'] at HSN
  have HP := Lib.hid (fun w1 (hb : Below w.heap.size w w1) => cePack_yes kind A n c q w1 (ht.below hb) (h.below hb) hf hy)
  have HQ := Lib.hid (fun w1 (hb : Below w.heap.size w w1) => cePack_no kind B m d p w1 (k.below hb) hf' hz)
  have HPL := Lib.hid (cPage_len kind (lq q) hy.2)
  have HTG := Lib.hid (isTag_page kind (lq q))
  have HU := Lib.hid (fun A c w1 (hb : Below w.heap.size w w1) (h : Arg w1 A 128 c (cPage kind (lq q))) => show Calls Tryd.prog 15 #[.slice A 128 c] w1 (UnpEnd (kind, lq q, 0) w1) by
    have := ceUnpack_any A 128 c _ w1 (ht.below hb) h
    rwa [unpN_page hy] at this)
  have HU2 := Lib.hid (fun A c l w1 (hb : Below w.heap.size w w1) (h : Arg w1 A 128 c l) => ceUnpack_any A 128 c l w1 (ht.below hb) h)
  have HZ := Lib.hid (fun w1 (hb : Below w.heap.size w w1) => ceSize_any B m d p w1 (k.below hb) hf')
  have HQL : Hid ((lq q).length ≤ 1000) := Lib.hid (by rw [lq_len]; exact hf.1)
  have HPLN : Hid ((lq p).length ≤ 1000) := Lib.hid (by rw [lq_len]; exact hf'.1)
  have HTX := Lib.hid (fun A n c x w1 (h : CellsA w1 A n c x) (hx : lq x = lq q) => show Calls Tryd.prog 12 #[.slice A n c] w1 (TxtEnd w1 (lq q)) by
    have := texts_any A n c x w1 h (by have := hf.1; rw [← lq_len, hx, lq_len]; omega)
    rwa [hx] at this)
  have HTY := Lib.hid (fun w1 (hb : Below w.heap.size w w1) => texts_any B m d p w1 (k.below hb) (by have := hf'.1; omega))
  have hal : cSz (lq p) % 128 < 128 := Nat.mod_lt _ (by decide)
  clear ht h k hs hs' hf hf' hy hz
  go_enter Tryd.func5, Tryd.ntmps5
  go_wp2_with (first
    | (go_at_call 8; (with_reducible refine (awake07_any _ HT.out).mono ?_); rintro e w0 ⟨rfl, h0⟩; have B0 := Lib.hid h0; clear h0)
    | (go_at_call 9; (with_reducible refine (HSM.out _ B0.out).mono ?_); rintro e w1 ⟨rfl, rfl⟩)
    | (go_at_call 9; (with_reducible refine (HSN.out _ B0.out).mono ?_); rintro e w1 ⟨rfl, rfl⟩)
    | (go_at_call 10; (with_reducible refine (HP.out _ B0.out).mono ?_); rintro e w2 ⟨A2, c2, rfl, g1, g2, r2, b2⟩; have R2 := Lib.hid (r2.low B0.out.size); have G1 := Lib.hid g1; have G2 := Lib.hid g2; have B2 := Lib.hid (below_step B0.out b2); clear r2 b2 g2)
    | (go_at_call 10; (with_reducible refine (HQ.out _ B2.out).mono ?_); rintro e w3 ⟨rfl, b3⟩;  have R3 := Lib.hid (R2.out.below b3); have B3 := Lib.hid (below_step B2.out b3); clear b3)
    | (go_at_call 15; (with_reducible refine (HU.out _ _ _ B3.out (Arg.of_row R3.out HPL.out.symm (by decide) G1.out G2.out)).mono ?_); rintro e w4 ⟨A4, n4, c4, q4, rfl, k4, l4, b4⟩; have K4 := Lib.hid k4; have L4 := Lib.hid l4; have R4 := Lib.hid (R3.out.below b4);  have B4 := Lib.hid (below_step B3.out b4); clear k4 l4 b4)
    | (go_at_call 12; (with_reducible refine (HTX.out _ _ _ _ _ K4.out L4.out).mono ?_); rintro e w5 ⟨A5, c5, rfl, t5, b5⟩; have T5 := Lib.hid t5; have R5 := Lib.hid (R4.out.below b5);  have B5 := Lib.hid (below_step B4.out b5); clear t5 b5)
    | (go_at_call 12; (with_reducible refine (HTX.out _ _ _ _ _ (HA.out.below B5.out) rfl).mono ?_); rintro e w6 ⟨A6, c6, rfl, t6, b6⟩; have T6 := Lib.hid t6; have T5b := Lib.hid (T5.out.below b6); have R6 := Lib.hid (R5.out.below b6);  have B6 := Lib.hid (below_step B5.out b6); clear t6 b6)
    | (go_at_call 17; (with_reducible refine (same_yes _ _ _ _ _ _ _ _ T5b.out T6.out ?_).mono ?_); (have := HQL.out; omega); rintro e w7 ⟨rfl, b7⟩; have R7 := Lib.hid (R6.out.below b7);  have B7 := Lib.hid (below_step B6.out b7); clear b7))
  have BX := Lib.hid B7.out.drew
  have RX := Lib.hid R7.out.drew
  have hS : (fun w' : World => True) w7.drew := trivial
  rename_i K hK
  refine wp_held (fun w' : World => True) K hmx ?_ (fun _ _ h => h)
  refine wpAnyH_take (i := 0) (v := .int .i64 1) rfl (by kernel_rfl) (by kernel_rfl) (by kernel_rfl) (fun _ _ _ h => h) (Or.inl ⟨by rfl, ?_⟩) trivial ?_
  · rintro w6 s1
    go_simp
  simp only [Act.put, List.setIfInBounds_toArray, List.set_cons_zero, List.set_cons_succ, List.getElem_toArray, List.getElem_cons_zero]
  refine wpAnyH_take (i := 1) (v := .bool false) rfl (by kernel_rfl) (by kernel_rfl) (by kernel_rfl) (fun _ _ _ h => h) (Or.inl ⟨by rfl, ?_⟩) trivial ?_
  · rintro w6 s1
    go_simp
  simp only [Act.put, List.setIfInBounds_toArray, List.set_cons_zero, List.set_cons_succ, List.getElem_toArray, List.getElem_cons_zero, List.getElem_cons_succ]
  refine wpAnyH_take (i := 2) (v := .bool false) rfl (by kernel_rfl) (by kernel_rfl) (by kernel_rfl) (fun _ _ _ h => h) (Or.inl ⟨by rfl, ?_⟩) trivial ?_
  · rintro w6 s1
    go_simp
  simp only [Act.put, List.setIfInBounds_toArray, List.set_cons_zero, List.set_cons_succ, List.getElem_toArray, List.getElem_cons_zero, List.getElem_cons_succ]
  refine wpAnyH_take (i := 3) (v := undef) rfl (by kernel_rfl) (by kernel_rfl) (by kernel_rfl) (fun _ _ _ h => h) (Or.inr ⟨by rfl, rfl⟩) trivial ?_
  simp only [Act.put, List.setIfInBounds_toArray, List.set_cons_zero, List.set_cons_succ, List.getElem_toArray, List.getElem_cons_zero, List.getElem_cons_succ]
  refine wpAnyH_take (i := 4) (v := undef) rfl (by kernel_rfl) (by kernel_rfl) (by kernel_rfl) (fun _ _ _ h => h) (Or.inr ⟨by rfl, rfl⟩) trivial ?_
  simp only [Act.put, List.setIfInBounds_toArray, List.set_cons_zero, List.set_cons_succ, List.getElem_toArray, List.getElem_cons_zero, List.getElem_cons_succ]
  refine wpAnyH_take (i := 5) (v := undef) rfl (by kernel_rfl) (by kernel_rfl) (by kernel_rfl) (fun _ _ _ h => h) (Or.inr ⟨by rfl, rfl⟩) trivial ?_
  simp only [Act.put, List.setIfInBounds_toArray, List.set_cons_zero, List.set_cons_succ, List.getElem_toArray, List.getElem_cons_zero, List.getElem_cons_succ]
  refine wpAnyH_take (i := 6) (v := undef) rfl (by kernel_rfl) (by kernel_rfl) (by kernel_rfl) (fun _ _ _ h => h) (Or.inr ⟨by rfl, rfl⟩) trivial ?_
  simp only [Act.put, List.setIfInBounds_toArray, List.set_cons_zero, List.set_cons_succ, List.getElem_toArray, List.getElem_cons_zero, List.getElem_cons_succ]
  refine wpAnyH_take (i := 7) (v := undef) rfl (by kernel_rfl) (by kernel_rfl) (by kernel_rfl) (fun _ _ _ h => h) (Or.inr ⟨by rfl, rfl⟩) trivial ?_
  simp only [Act.put, List.setIfInBounds_toArray, List.set_cons_zero, List.set_cons_succ, List.getElem_toArray, List.getElem_cons_zero, List.getElem_cons_succ]
  refine wpAnyH_take (i := 8) (v := undef) rfl (by kernel_rfl) (by kernel_rfl) (by kernel_rfl) (fun _ _ _ h => h) (Or.inr ⟨by rfl, rfl⟩) trivial ?_
  simp only [Act.put, List.setIfInBounds_toArray, List.set_cons_zero, List.set_cons_succ, List.getElem_toArray, List.getElem_cons_zero, List.getElem_cons_succ]
  refine wpAnyH_take (i := 9) (v := undef) rfl (by kernel_rfl) (by kernel_rfl) (by kernel_rfl) (fun _ _ _ h => h) (Or.inr ⟨by rfl, rfl⟩) trivial ?_
  simp only [Act.put, List.setIfInBounds_toArray, List.set_cons_zero, List.set_cons_succ, List.getElem_toArray, List.getElem_cons_zero, List.getElem_cons_succ]
  refine wpAnyH_take (i := 10) (v := undef) rfl (by kernel_rfl) (by kernel_rfl) (by kernel_rfl) (fun _ _ _ h => h) (Or.inr ⟨by rfl, rfl⟩) trivial ?_
  simp only [Act.put, List.setIfInBounds_toArray, List.set_cons_zero, List.set_cons_succ, List.getElem_toArray, List.getElem_cons_zero, List.getElem_cons_succ]
  refine wpAnyH_take (i := 11) (v := undef) rfl (by kernel_rfl) (by kernel_rfl) (by kernel_rfl) (fun _ _ _ h => h) (Or.inr ⟨by rfl, rfl⟩) trivial ?_
  simp only [Act.put, List.setIfInBounds_toArray, List.set_cons_zero, List.set_cons_succ, List.getElem_toArray, List.getElem_cons_zero, List.getElem_cons_succ]
  refine wpAnyH_take (i := 12) (v := undef) rfl (by kernel_rfl) (by kernel_rfl) (by kernel_rfl) (fun _ _ _ h => h) (Or.inr ⟨by rfl, rfl⟩) trivial ?_
  simp only [Act.put, List.setIfInBounds_toArray, List.set_cons_zero, List.set_cons_succ, List.getElem_toArray, List.getElem_cons_zero, List.getElem_cons_succ]
  refine wpAnyH_take (i := 13) (v := undef) rfl (by kernel_rfl) (by kernel_rfl) (by kernel_rfl) (fun _ _ _ h => h) (Or.inr ⟨by rfl, rfl⟩) trivial ?_
  simp only [Act.put, List.setIfInBounds_toArray, List.set_cons_zero, List.set_cons_succ, List.getElem_toArray, List.getElem_cons_zero, List.getElem_cons_succ]
  refine wpAnyH_take (i := 14) (v := .bool false) rfl (by kernel_rfl) (by kernel_rfl) (by kernel_rfl) (fun _ _ _ h => h) (Or.inl ⟨by rfl, ?_⟩) trivial ?_
  · rintro w6 s1
    go_simp
  simp only [Act.put, List.setIfInBounds_toArray, List.set_cons_zero, List.set_cons_succ, List.getElem_toArray, List.getElem_cons_zero, List.getElem_cons_succ]
  refine wpAnyH_done (by kernel_rfl) ?_ _
  refine hK _ _ ?_
  obtain ⟨w8, hw8⟩ : ∃ w8, w7.drew = w8 := ⟨_, rfl⟩
  rw [hw8] at BX RX ⊢
  clear hw8
  go_wp2_with (first
   | (go_at_call 13; (with_reducible refine (HZ.out _ BX.out).mono ?_); rintro e w9 ⟨rfl, rfl⟩; obtain ⟨g, off, rfl, hlo, hcl, hfr, har⟩ := row_turn RX.out HPL.out G1.out G2.out (cSz (lq p) % 128) (by rw [HPL.out]; exact hal); have HAR := Lib.hid har; have HLO := Lib.hid hlo; have HTU := Lib.hid (unpN_sum (b := (cPage kind (lq q)).set (cSz (lq p) % 128) ((cPage kind (lq q))[cSz (lq p) % 128]'(by rw [HPL.out]; exact hal) ^^^ 1)) (by rw [List.length_set, HPL.out]) (turned (cPage kind (lq q)) (cSz (lq p) % 128) (by rw [HPL.out]; exact hal) HTG.out)); have hxo := xor_one ((cPage kind (lq q))[cSz (lq p) % 128]'(by rw [HPL.out]; exact hal)); generalize (cPage kind (lq q))[cSz (lq p) % 128]'_ = x at *; have hxl := x.toNat_lt; obtain ⟨y, hy⟩ : ∃ y, x ^^^ 1 = y := ⟨_, rfl⟩; rw [hy] at hxo HAR HTU; clear har hlo hy)
   | (go_at_call 15; have hu := HU2.out _ c2 _ _ (BX.out.setCell HLO.out (p := ⟨g, off + cSz (lq p) % 128, none⟩) (.int .u8 (y.toNat : Int))) HAR.out; rw [HTU.out] at hu; (with_reducible refine hu.mono ?_); rintro e w10 ⟨A10, n10, c10, q10, rfl, _, _, b10⟩; have B10 := Lib.hid (below_step (BX.out.setCell HLO.out (p := ⟨g, off + cSz (lq p) % 128, none⟩) (.int .u8 (y.toNat : Int))) b10); clear hu b10))
  go_ret
  exact ⟨rfl, B10.out⟩

set_option maxRecDepth 100000 in
set_option maxHeartbeats 8000000 in
theorem ceBack_two (kind : UInt8) (A B : Option Addr) (n c m d : Nat) (q p : List Hd) (w : World) (ht : Tab w) (h : CellsA w A n c q) (k : CellsA w B m d p) (hs : smallB q = true) (hs' : smallB p = true) (hy : cFits kind (lq q)) (hz : cFits kind (lq p)) :
    Calls Tryd.prog 5 #[.int .u8 (kind.toNat : Int), .slice A n c, .slice B m d] w fun e w' => e = .returned (.bool true) ∧ Below w.heap.size w w' := by
  have hmx : Tryd.prog.follows .mixedOrders = true := by kernel_rfl
  have HT := Lib.hid ht
  have HA := Lib.hid h
  have HK := Lib.hid k
  have hf := small_few hs
  have hf' := small_few hs'
  have HSM := Lib.hid (fun w1 (hb : Below w.heap.size w w1) => small07_any A n c q w1 (h.below hb))
  have HSN := Lib.hid (fun w1 (hb : Below w.heap.size w w1) => small07_any B m d p w1 (k.below hb))
  rw [hs] at HSM
  rw [hs'] at HSN
  have HP := Lib.hid (fun w1 (hb : Below w.heap.size w w1) => cePack_yes kind A n c q w1 (ht.below hb) (h.below hb) hf hy)
  have HQ := Lib.hid (fun w1 (hb : Below w.heap.size w w1) => cePack_yes kind B m d p w1 (ht.below hb) (k.below hb) hf' hz)
  have HPL := Lib.hid (cPage_len kind (lq q) hy.2)
  have HTG := Lib.hid (isTag_page kind (lq q))
  have HU := Lib.hid (fun A c w1 (hb : Below w.heap.size w w1) (h : Arg w1 A 128 c (cPage kind (lq q))) => show Calls Tryd.prog 15 #[.slice A 128 c] w1 (UnpEnd (kind, lq q, 0) w1) by
    have := ceUnpack_any A 128 c _ w1 (ht.below hb) h
    rwa [unpN_page hy] at this)
  have HU2 := Lib.hid (fun A c l w1 (hb : Below w.heap.size w w1) (h : Arg w1 A 128 c l) => ceUnpack_any A 128 c l w1 (ht.below hb) h)
  have HZ := Lib.hid (fun w1 (hb : Below w.heap.size w w1) => ceSize_any B m d p w1 (k.below hb) hf')
  have HQL : Hid ((lq q).length ≤ 1000) := Lib.hid (by rw [lq_len]; exact hf.1)
  have HPLN : Hid ((lq p).length ≤ 1000) := Lib.hid (by rw [lq_len]; exact hf'.1)
  have HTX := Lib.hid (fun A n c x w1 (h : CellsA w1 A n c x) (hx : lq x = lq q) => show Calls Tryd.prog 12 #[.slice A n c] w1 (TxtEnd w1 (lq q)) by
    have := texts_any A n c x w1 h (by have := hf.1; rw [← lq_len, hx, lq_len]; omega)
    rwa [hx] at this)
  have HTY := Lib.hid (fun w1 (hb : Below w.heap.size w w1) => texts_any B m d p w1 (k.below hb) (by have := hf'.1; omega))
  have HPM := Lib.hid (cPage_len kind (lq p) hz.2)
  have HEQ : Hid ((cPage kind (lq q) == cPage kind (lq p)) = sameB (lq q) (lq p)) := Lib.hid (by
    rw [Bool.eq_iff_iff]
    simp [sameB, cPage_inj hy.2 hz.2])
  have hal : cSz (lq p) % 128 < 128 := Nat.mod_lt _ (by decide)
  have hcase : sameB (lq q) (lq p) = true ∨ sameB (lq q) (lq p) = false := by cases sameB (lq q) (lq p) <;> simp
  clear ht h k hs hs' hf hf' hy hz
  rcases hcase with hv | hv
  · have hq := HEQ.out
    rw [hv] at hq
    go_enter Tryd.func5, Tryd.ntmps5
    go_wp2_with (first
      | (go_at_call 8; (with_reducible refine (awake07_any _ HT.out).mono ?_); rintro e w0 ⟨rfl, h0⟩; have B0 := Lib.hid h0; clear h0)
      | (go_at_call 9; (with_reducible refine (HSM.out _ B0.out).mono ?_); rintro e w1 ⟨rfl, rfl⟩)
      | (go_at_call 9; (with_reducible refine (HSN.out _ B0.out).mono ?_); rintro e w1 ⟨rfl, rfl⟩)
      | (go_at_call 10; (with_reducible refine (HP.out _ B0.out).mono ?_); rintro e w2 ⟨A2, c2, rfl, g1, g2, r2, b2⟩; have R2 := Lib.hid (r2.low B0.out.size); have G1 := Lib.hid g1; have G2 := Lib.hid g2; have B2 := Lib.hid (below_step B0.out b2); clear r2 b2 g2)
      | (go_at_call 10; (with_reducible refine (HQ.out _ B2.out).mono ?_); rintro e w3 ⟨A3, c3, rfl, g3, g4, r3, b3⟩; have Y3 := Lib.hid r3; clear r3; have R3 := Lib.hid (R2.out.below b3); have B3 := Lib.hid (below_step B2.out b3); clear b3)
      | (go_at_call 15; (with_reducible refine (HU.out _ _ _ B3.out (Arg.of_row R3.out HPL.out.symm (by decide) G1.out G2.out)).mono ?_); rintro e w4 ⟨A4, n4, c4, q4, rfl, k4, l4, b4⟩; have K4 := Lib.hid k4; have L4 := Lib.hid l4; have R4 := Lib.hid (R3.out.below b4); have Y4 := Lib.hid (Y3.out.below b4); have B4 := Lib.hid (below_step B3.out b4); clear k4 l4 b4)
      | (go_at_call 12; (with_reducible refine (HTX.out _ _ _ _ _ K4.out L4.out).mono ?_); rintro e w5 ⟨A5, c5, rfl, t5, b5⟩; have T5 := Lib.hid t5; have R5 := Lib.hid (R4.out.below b5); have Y5 := Lib.hid (Y4.out.below b5); have B5 := Lib.hid (below_step B4.out b5); clear t5 b5)
      | (go_at_call 12; (with_reducible refine (HTX.out _ _ _ _ _ (HA.out.below B5.out) rfl).mono ?_); rintro e w6 ⟨A6, c6, rfl, t6, b6⟩; have T6 := Lib.hid t6; have T5b := Lib.hid (T5.out.below b6); have R6 := Lib.hid (R5.out.below b6); have Y6 := Lib.hid (Y5.out.below b6); have B6 := Lib.hid (below_step B5.out b6); clear t6 b6)
      | (go_at_call 17; (with_reducible refine (same_yes _ _ _ _ _ _ _ _ T5b.out T6.out ?_).mono ?_); (have := HQL.out; omega); rintro e w7 ⟨rfl, b7⟩; have R7 := Lib.hid (R6.out.below b7); have Y7 := Lib.hid (Y6.out.below b7); have B7 := Lib.hid (below_step B6.out b7); clear b7))
    have BD := B7.out.drew
    have RD := R7.out.drew
    have YD := Y7.out.drew
    have hS : (fun w' : World => (convert 25 9 (.slice A2 128 c2)).run Tryd.prog w' = .ok (.string ⟨(cPage kind (lq q)).toArray⟩) w' ∧ (convert 25 9 (.slice A3 128 c3)).run Tryd.prog w' = .ok (.string ⟨(cPage kind (lq p)).toArray⟩) w') w7.drew := ⟨run_string_of (P := Tryd.prog) w7.drew 25 9 5 Tryd.underlying25 Tryd.underlying5 Tryd.underlying9 (cap := c2) HPL.out.symm RD.reads, run_string_of (P := Tryd.prog) w7.drew 25 9 5 Tryd.underlying25 Tryd.underlying5 Tryd.underlying9 (cap := c3) HPM.out.symm YD.reads⟩
    rename_i K hK
    refine wp_held (fun w' : World => (convert 25 9 (.slice A2 128 c2)).run Tryd.prog w' = .ok (.string ⟨(cPage kind (lq q)).toArray⟩) w' ∧ (convert 25 9 (.slice A3 128 c3)).run Tryd.prog w' = .ok (.string ⟨(cPage kind (lq p)).toArray⟩) w') K hmx ?_ (fun _ _ h => h)
    refine wpAnyH_take (i := 0) (v := .int .i64 0) rfl (by kernel_rfl) (by kernel_rfl) (by kernel_rfl) (fun _ _ _ h => h) (Or.inl ⟨by rfl, ?_⟩) hS ?_
    · rintro w6 ⟨s1, s2⟩
      go_simp
    simp only [Act.put, List.setIfInBounds_toArray, List.set_cons_zero, List.set_cons_succ, List.getElem_toArray, List.getElem_cons_zero]
    refine wpAnyH_take (i := 1) (v := .bool true) rfl (by kernel_rfl) (by kernel_rfl) (by kernel_rfl) (fun _ _ _ h => h) (Or.inl ⟨by rfl, ?_⟩) hS ?_
    · rintro w6 ⟨s1, s2⟩
      go_simp
    simp only [Act.put, List.setIfInBounds_toArray, List.set_cons_zero, List.set_cons_succ, List.getElem_toArray, List.getElem_cons_zero, List.getElem_cons_succ]
    refine wpAnyH_take (i := 2) (v := .bool true) rfl (by kernel_rfl) (by kernel_rfl) (by kernel_rfl) (fun _ _ _ h => h) (Or.inl ⟨by rfl, ?_⟩) hS ?_
    · rintro w6 ⟨s1, s2⟩
      go_simp
    simp only [Act.put, List.setIfInBounds_toArray, List.set_cons_zero, List.set_cons_succ, List.getElem_toArray, List.getElem_cons_zero, List.getElem_cons_succ]
    refine wpAnyH_take (i := 3) (v := .slice A2 128 c2) rfl (by kernel_rfl) (by kernel_rfl) (by kernel_rfl) (fun _ _ _ h => h) (Or.inl ⟨by rfl, ?_⟩) hS ?_
    · rintro w6 ⟨s1, s2⟩
      go_simp
    simp only [Act.put, List.setIfInBounds_toArray, List.set_cons_zero, List.set_cons_succ, List.getElem_toArray, List.getElem_cons_zero, List.getElem_cons_succ]
    refine wpAnyH_take (i := 4) (v := .string ⟨(cPage kind (lq q)).toArray⟩) rfl (by kernel_rfl) (by kernel_rfl) (by kernel_rfl) (fun _ _ _ h => h) (Or.inl ⟨by rfl, ?_⟩) hS ?_
    · rintro w6 ⟨s1, s2⟩
      go_simp
    simp only [Act.put, List.setIfInBounds_toArray, List.set_cons_zero, List.set_cons_succ, List.getElem_toArray, List.getElem_cons_zero, List.getElem_cons_succ]
    refine wpAnyH_take (i := 5) (v := .slice A3 128 c3) rfl (by kernel_rfl) (by kernel_rfl) (by kernel_rfl) (fun _ _ _ h => h) (Or.inl ⟨by rfl, ?_⟩) hS ?_
    · rintro w6 ⟨s1, s2⟩
      go_simp
    simp only [Act.put, List.setIfInBounds_toArray, List.set_cons_zero, List.set_cons_succ, List.getElem_toArray, List.getElem_cons_zero, List.getElem_cons_succ]
    refine wpAnyH_take (i := 6) (v := .string ⟨(cPage kind (lq p)).toArray⟩) rfl (by kernel_rfl) (by kernel_rfl) (by kernel_rfl) (fun _ _ _ h => h) (Or.inl ⟨by rfl, ?_⟩) hS ?_
    · rintro w6 ⟨s1, s2⟩
      go_simp
    simp only [Act.put, List.setIfInBounds_toArray, List.set_cons_zero, List.set_cons_succ, List.getElem_toArray, List.getElem_cons_zero, List.getElem_cons_succ]
    refine wpAnyH_take (i := 7) (v := .bool true) rfl (by kernel_rfl) (by kernel_rfl) (by kernel_rfl) (fun _ _ _ h => h) (Or.inl ⟨by rfl, ?_⟩) hS ?_
    · rintro w6 ⟨s1, s2⟩
      go_simp
    simp only [Act.put, List.setIfInBounds_toArray, List.set_cons_zero, List.set_cons_succ, List.getElem_toArray, List.getElem_cons_zero, List.getElem_cons_succ]
    refine wpAnyH_take (i := 8) (v := .slice A n c) rfl (by kernel_rfl) (by kernel_rfl) (by kernel_rfl) (fun _ _ _ h => h) (Or.inl ⟨by rfl, ?_⟩) hS ?_
    · rintro w6 ⟨s1, s2⟩
      go_simp
    simp only [Act.put, List.setIfInBounds_toArray, List.set_cons_zero, List.set_cons_succ, List.getElem_toArray, List.getElem_cons_zero, List.getElem_cons_succ]
    refine wpAnyH_take (i := 10) (v := .slice B m d) rfl (by kernel_rfl) (by kernel_rfl) (by kernel_rfl) (fun _ _ _ h => h) (Or.inl ⟨by rfl, ?_⟩) hS ?_
    · rintro w6 ⟨s1, s2⟩
      go_simp
    simp only [Act.put, List.setIfInBounds_toArray, List.set_cons_zero, List.set_cons_succ, List.getElem_toArray, List.getElem_cons_zero, List.getElem_cons_succ]
    refine wpAnyH_ready (rs := [9]) (by kernel_rfl) (by simp) ?_
    refine AllReadyH.cons rfl (fun K5 hK5 => ?_) AllReadyH.nil
    go_simp
    go_at_call 12
    (with_reducible refine (HTX.out _ _ _ _ _ (HA.out.below BD) rfl).mono ?_)
    rintro e w11 ⟨A11, c11, rfl, t11, b11⟩
    have T11 := Lib.hid t11
    have B11 := Lib.hid (below_step BD b11)
    have R11 := Lib.hid (RD.below b11)
    have Y11 := Lib.hid (YD.below b11)
    have hS11 : (fun w' : World => (convert 25 9 (.slice A2 128 c2)).run Tryd.prog w' = .ok (.string ⟨(cPage kind (lq q)).toArray⟩) w' ∧ (convert 25 9 (.slice A3 128 c3)).run Tryd.prog w' = .ok (.string ⟨(cPage kind (lq p)).toArray⟩) w') w11 := ⟨run_string_of (P := Tryd.prog) w11 25 9 5 Tryd.underlying25 Tryd.underlying5 Tryd.underlying9 (cap := c2) HPL.out.symm R11.out.reads, run_string_of (P := Tryd.prog) w11 25 9 5 Tryd.underlying25 Tryd.underlying5 Tryd.underlying9 (cap := c3) HPM.out.symm Y11.out.reads⟩
    clear t11 b11
    refine hK5.out _ _ hS11 (fun _ => ?_)
    clear hK5 K5
    refine wpAnyH_ready (rs := [11]) (by kernel_rfl) (by simp) ?_
    refine AllReadyH.cons rfl (fun K5 hK5 => ?_) AllReadyH.nil
    go_simp
    go_at_call 12
    (with_reducible refine (HTY.out _ B11.out).mono ?_)
    rintro e w12 ⟨A12, c12, rfl, t12, b12⟩
    have T12 := Lib.hid t12
    have T11b := Lib.hid (T11.out.below b12)
    have B12 := Lib.hid (below_step B11.out b12)
    have R12 := Lib.hid (R11.out.below b12)
    have Y12 := Lib.hid (Y11.out.below b12)
    have hS12 : (fun w' : World => (convert 25 9 (.slice A2 128 c2)).run Tryd.prog w' = .ok (.string ⟨(cPage kind (lq q)).toArray⟩) w' ∧ (convert 25 9 (.slice A3 128 c3)).run Tryd.prog w' = .ok (.string ⟨(cPage kind (lq p)).toArray⟩) w') w12 := ⟨run_string_of (P := Tryd.prog) w12 25 9 5 Tryd.underlying25 Tryd.underlying5 Tryd.underlying9 (cap := c2) HPL.out.symm R12.out.reads, run_string_of (P := Tryd.prog) w12 25 9 5 Tryd.underlying25 Tryd.underlying5 Tryd.underlying9 (cap := c3) HPM.out.symm Y12.out.reads⟩
    clear t12 b12
    refine hK5.out _ _ hS12 (fun _ => ?_)
    clear hK5 K5
    refine wpAnyH_ready (rs := [12]) (by kernel_rfl) (by simp) ?_
    refine AllReadyH.cons rfl (fun K5 hK5 => ?_) AllReadyH.nil
    go_simp
    go_at_call 17
    (with_reducible refine (same_any2 _ _ _ _ _ _ _ _ _ true hv T11b.out T12.out ?_).mono ?_)
    · have := HQL.out; omega
    rintro e w13 ⟨rfl, b13⟩
    have BX := Lib.hid (below_step B12.out b13)
    have RX := Lib.hid (R12.out.below b13)
    have YX := Lib.hid (Y12.out.below b13)
    have hS13 : (fun w' : World => (convert 25 9 (.slice A2 128 c2)).run Tryd.prog w' = .ok (.string ⟨(cPage kind (lq q)).toArray⟩) w' ∧ (convert 25 9 (.slice A3 128 c3)).run Tryd.prog w' = .ok (.string ⟨(cPage kind (lq p)).toArray⟩) w') w13 := ⟨run_string_of (P := Tryd.prog) w13 25 9 5 Tryd.underlying25 Tryd.underlying5 Tryd.underlying9 (cap := c2) HPL.out.symm RX.out.reads, run_string_of (P := Tryd.prog) w13 25 9 5 Tryd.underlying25 Tryd.underlying5 Tryd.underlying9 (cap := c3) HPM.out.symm YX.out.reads⟩
    clear b13
    refine hK5.out _ _ hS13 (fun _ => ?_)
    clear hK5 K5
    refine wpAnyH_take (i := 13) (v := .bool false) rfl (by kernel_rfl) (by kernel_rfl) (by kernel_rfl) (fun _ _ _ h => h) (Or.inl ⟨by rfl, ?_⟩) hS13 ?_
    · rintro w6 ⟨s1, s2⟩
      go_simp
    simp only [Act.put, List.setIfInBounds_toArray, List.set_cons_zero, List.set_cons_succ, List.getElem_toArray, List.getElem_cons_zero, List.getElem_cons_succ]
    refine wpAnyH_take (i := 14) (v := .bool false) rfl (by kernel_rfl) (by kernel_rfl) (by kernel_rfl) (fun _ _ _ h => h) (Or.inl ⟨by rfl, ?_⟩) hS13 ?_
    · rintro w6 ⟨s1, s2⟩
      go_simp
    simp only [Act.put, List.setIfInBounds_toArray, List.set_cons_zero, List.set_cons_succ, List.getElem_toArray, List.getElem_cons_zero, List.getElem_cons_succ]
    refine wpAnyH_done (by kernel_rfl) ?_ _
    refine hK _ _ ?_
    have hS13 := Lib.hid hS13
    obtain ⟨w8, hw8⟩ : ∃ w8, w13 = w8 := ⟨_, rfl⟩
    rw [hw8] at BX RX ⊢
    clear hw8
    go_wp2_with (first
     | (go_at_call 13; (with_reducible refine (HZ.out _ BX.out).mono ?_); rintro e w9 ⟨rfl, rfl⟩; obtain ⟨g, off, rfl, hlo, hcl, hfr, har⟩ := row_turn RX.out HPL.out G1.out G2.out (cSz (lq p) % 128) (by rw [HPL.out]; exact hal); have HAR := Lib.hid har; have HLO := Lib.hid hlo; have HTU := Lib.hid (unpN_sum (b := (cPage kind (lq q)).set (cSz (lq p) % 128) ((cPage kind (lq q))[cSz (lq p) % 128]'(by rw [HPL.out]; exact hal) ^^^ 1)) (by rw [List.length_set, HPL.out]) (turned (cPage kind (lq q)) (cSz (lq p) % 128) (by rw [HPL.out]; exact hal) HTG.out)); have hxo := xor_one ((cPage kind (lq q))[cSz (lq p) % 128]'(by rw [HPL.out]; exact hal)); generalize (cPage kind (lq q))[cSz (lq p) % 128]'_ = x at *; have hxl := x.toNat_lt; obtain ⟨y, hy⟩ : ∃ y, x ^^^ 1 = y := ⟨_, rfl⟩; rw [hy] at hxo HAR HTU; clear har hlo hy)
     | (go_at_call 15; have hu := HU2.out _ c2 _ _ (BX.out.setCell HLO.out (p := ⟨g, off + cSz (lq p) % 128, none⟩) (.int .u8 (y.toNat : Int))) HAR.out; rw [HTU.out] at hu; (with_reducible refine hu.mono ?_); rintro e w10 ⟨A10, n10, c10, q10, rfl, _, _, b10⟩; have B10 := Lib.hid (below_step (BX.out.setCell HLO.out (p := ⟨g, off + cSz (lq p) % 128, none⟩) (.int .u8 (y.toNat : Int))) b10); clear hu b10))
    go_ret
    exact ⟨rfl, B10.out⟩

  · have hq := HEQ.out
    rw [hv] at hq
    go_enter Tryd.func5, Tryd.ntmps5
    go_wp2_with (first
      | (go_at_call 8; (with_reducible refine (awake07_any _ HT.out).mono ?_); rintro e w0 ⟨rfl, h0⟩; have B0 := Lib.hid h0; clear h0)
      | (go_at_call 9; (with_reducible refine (HSM.out _ B0.out).mono ?_); rintro e w1 ⟨rfl, rfl⟩)
      | (go_at_call 9; (with_reducible refine (HSN.out _ B0.out).mono ?_); rintro e w1 ⟨rfl, rfl⟩)
      | (go_at_call 10; (with_reducible refine (HP.out _ B0.out).mono ?_); rintro e w2 ⟨A2, c2, rfl, g1, g2, r2, b2⟩; have R2 := Lib.hid (r2.low B0.out.size); have G1 := Lib.hid g1; have G2 := Lib.hid g2; have B2 := Lib.hid (below_step B0.out b2); clear r2 b2 g2)
      | (go_at_call 10; (with_reducible refine (HQ.out _ B2.out).mono ?_); rintro e w3 ⟨A3, c3, rfl, g3, g4, r3, b3⟩; have Y3 := Lib.hid r3; clear r3; have R3 := Lib.hid (R2.out.below b3); have B3 := Lib.hid (below_step B2.out b3); clear b3)
      | (go_at_call 15; (with_reducible refine (HU.out _ _ _ B3.out (Arg.of_row R3.out HPL.out.symm (by decide) G1.out G2.out)).mono ?_); rintro e w4 ⟨A4, n4, c4, q4, rfl, k4, l4, b4⟩; have K4 := Lib.hid k4; have L4 := Lib.hid l4; have R4 := Lib.hid (R3.out.below b4); have Y4 := Lib.hid (Y3.out.below b4); have B4 := Lib.hid (below_step B3.out b4); clear k4 l4 b4)
      | (go_at_call 12; (with_reducible refine (HTX.out _ _ _ _ _ K4.out L4.out).mono ?_); rintro e w5 ⟨A5, c5, rfl, t5, b5⟩; have T5 := Lib.hid t5; have R5 := Lib.hid (R4.out.below b5); have Y5 := Lib.hid (Y4.out.below b5); have B5 := Lib.hid (below_step B4.out b5); clear t5 b5)
      | (go_at_call 12; (with_reducible refine (HTX.out _ _ _ _ _ (HA.out.below B5.out) rfl).mono ?_); rintro e w6 ⟨A6, c6, rfl, t6, b6⟩; have T6 := Lib.hid t6; have T5b := Lib.hid (T5.out.below b6); have R6 := Lib.hid (R5.out.below b6); have Y6 := Lib.hid (Y5.out.below b6); have B6 := Lib.hid (below_step B5.out b6); clear t6 b6)
      | (go_at_call 17; (with_reducible refine (same_yes _ _ _ _ _ _ _ _ T5b.out T6.out ?_).mono ?_); (have := HQL.out; omega); rintro e w7 ⟨rfl, b7⟩; have R7 := Lib.hid (R6.out.below b7); have Y7 := Lib.hid (Y6.out.below b7); have B7 := Lib.hid (below_step B6.out b7); clear b7))
    have BD := B7.out.drew
    have RD := R7.out.drew
    have YD := Y7.out.drew
    have hS : (fun w' : World => (convert 25 9 (.slice A2 128 c2)).run Tryd.prog w' = .ok (.string ⟨(cPage kind (lq q)).toArray⟩) w' ∧ (convert 25 9 (.slice A3 128 c3)).run Tryd.prog w' = .ok (.string ⟨(cPage kind (lq p)).toArray⟩) w') w7.drew := ⟨run_string_of (P := Tryd.prog) w7.drew 25 9 5 Tryd.underlying25 Tryd.underlying5 Tryd.underlying9 (cap := c2) HPL.out.symm RD.reads, run_string_of (P := Tryd.prog) w7.drew 25 9 5 Tryd.underlying25 Tryd.underlying5 Tryd.underlying9 (cap := c3) HPM.out.symm YD.reads⟩
    rename_i K hK
    refine wp_held (fun w' : World => (convert 25 9 (.slice A2 128 c2)).run Tryd.prog w' = .ok (.string ⟨(cPage kind (lq q)).toArray⟩) w' ∧ (convert 25 9 (.slice A3 128 c3)).run Tryd.prog w' = .ok (.string ⟨(cPage kind (lq p)).toArray⟩) w') K hmx ?_ (fun _ _ h => h)
    refine wpAnyH_take (i := 0) (v := .int .i64 0) rfl (by kernel_rfl) (by kernel_rfl) (by kernel_rfl) (fun _ _ _ h => h) (Or.inl ⟨by rfl, ?_⟩) hS ?_
    · rintro w6 ⟨s1, s2⟩
      go_simp
    simp only [Act.put, List.setIfInBounds_toArray, List.set_cons_zero, List.set_cons_succ, List.getElem_toArray, List.getElem_cons_zero]
    refine wpAnyH_take (i := 1) (v := .bool true) rfl (by kernel_rfl) (by kernel_rfl) (by kernel_rfl) (fun _ _ _ h => h) (Or.inl ⟨by rfl, ?_⟩) hS ?_
    · rintro w6 ⟨s1, s2⟩
      go_simp
    simp only [Act.put, List.setIfInBounds_toArray, List.set_cons_zero, List.set_cons_succ, List.getElem_toArray, List.getElem_cons_zero, List.getElem_cons_succ]
    refine wpAnyH_take (i := 2) (v := .bool true) rfl (by kernel_rfl) (by kernel_rfl) (by kernel_rfl) (fun _ _ _ h => h) (Or.inl ⟨by rfl, ?_⟩) hS ?_
    · rintro w6 ⟨s1, s2⟩
      go_simp
    simp only [Act.put, List.setIfInBounds_toArray, List.set_cons_zero, List.set_cons_succ, List.getElem_toArray, List.getElem_cons_zero, List.getElem_cons_succ]
    refine wpAnyH_take (i := 3) (v := .slice A2 128 c2) rfl (by kernel_rfl) (by kernel_rfl) (by kernel_rfl) (fun _ _ _ h => h) (Or.inl ⟨by rfl, ?_⟩) hS ?_
    · rintro w6 ⟨s1, s2⟩
      go_simp
    simp only [Act.put, List.setIfInBounds_toArray, List.set_cons_zero, List.set_cons_succ, List.getElem_toArray, List.getElem_cons_zero, List.getElem_cons_succ]
    refine wpAnyH_take (i := 4) (v := .string ⟨(cPage kind (lq q)).toArray⟩) rfl (by kernel_rfl) (by kernel_rfl) (by kernel_rfl) (fun _ _ _ h => h) (Or.inl ⟨by rfl, ?_⟩) hS ?_
    · rintro w6 ⟨s1, s2⟩
      go_simp
    simp only [Act.put, List.setIfInBounds_toArray, List.set_cons_zero, List.set_cons_succ, List.getElem_toArray, List.getElem_cons_zero, List.getElem_cons_succ]
    refine wpAnyH_take (i := 5) (v := .slice A3 128 c3) rfl (by kernel_rfl) (by kernel_rfl) (by kernel_rfl) (fun _ _ _ h => h) (Or.inl ⟨by rfl, ?_⟩) hS ?_
    · rintro w6 ⟨s1, s2⟩
      go_simp
    simp only [Act.put, List.setIfInBounds_toArray, List.set_cons_zero, List.set_cons_succ, List.getElem_toArray, List.getElem_cons_zero, List.getElem_cons_succ]
    refine wpAnyH_take (i := 6) (v := .string ⟨(cPage kind (lq p)).toArray⟩) rfl (by kernel_rfl) (by kernel_rfl) (by kernel_rfl) (fun _ _ _ h => h) (Or.inl ⟨by rfl, ?_⟩) hS ?_
    · rintro w6 ⟨s1, s2⟩
      go_simp
    simp only [Act.put, List.setIfInBounds_toArray, List.set_cons_zero, List.set_cons_succ, List.getElem_toArray, List.getElem_cons_zero, List.getElem_cons_succ]
    refine wpAnyH_take (i := 7) (v := .bool false) rfl (by kernel_rfl) (by kernel_rfl) (by kernel_rfl) (fun _ _ _ h => h) (Or.inl ⟨by rfl, ?_⟩) hS ?_
    · rintro w6 ⟨s1, s2⟩
      go_simp
    simp only [Act.put, List.setIfInBounds_toArray, List.set_cons_zero, List.set_cons_succ, List.getElem_toArray, List.getElem_cons_zero, List.getElem_cons_succ]
    refine wpAnyH_take (i := 8) (v := .slice A n c) rfl (by kernel_rfl) (by kernel_rfl) (by kernel_rfl) (fun _ _ _ h => h) (Or.inl ⟨by rfl, ?_⟩) hS ?_
    · rintro w6 ⟨s1, s2⟩
      go_simp
    simp only [Act.put, List.setIfInBounds_toArray, List.set_cons_zero, List.set_cons_succ, List.getElem_toArray, List.getElem_cons_zero, List.getElem_cons_succ]
    refine wpAnyH_take (i := 10) (v := .slice B m d) rfl (by kernel_rfl) (by kernel_rfl) (by kernel_rfl) (fun _ _ _ h => h) (Or.inl ⟨by rfl, ?_⟩) hS ?_
    · rintro w6 ⟨s1, s2⟩
      go_simp
    simp only [Act.put, List.setIfInBounds_toArray, List.set_cons_zero, List.set_cons_succ, List.getElem_toArray, List.getElem_cons_zero, List.getElem_cons_succ]
    refine wpAnyH_ready (rs := [9]) (by kernel_rfl) (by simp) ?_
    refine AllReadyH.cons rfl (fun K5 hK5 => ?_) AllReadyH.nil
    go_simp
    go_at_call 12
    (with_reducible refine (HTX.out _ _ _ _ _ (HA.out.below BD) rfl).mono ?_)
    rintro e w11 ⟨A11, c11, rfl, t11, b11⟩
    have T11 := Lib.hid t11
    have B11 := Lib.hid (below_step BD b11)
    have R11 := Lib.hid (RD.below b11)
    have Y11 := Lib.hid (YD.below b11)
    have hS11 : (fun w' : World => (convert 25 9 (.slice A2 128 c2)).run Tryd.prog w' = .ok (.string ⟨(cPage kind (lq q)).toArray⟩) w' ∧ (convert 25 9 (.slice A3 128 c3)).run Tryd.prog w' = .ok (.string ⟨(cPage kind (lq p)).toArray⟩) w') w11 := ⟨run_string_of (P := Tryd.prog) w11 25 9 5 Tryd.underlying25 Tryd.underlying5 Tryd.underlying9 (cap := c2) HPL.out.symm R11.out.reads, run_string_of (P := Tryd.prog) w11 25 9 5 Tryd.underlying25 Tryd.underlying5 Tryd.underlying9 (cap := c3) HPM.out.symm Y11.out.reads⟩
    clear t11 b11
    refine hK5.out _ _ hS11 (fun _ => ?_)
    clear hK5 K5
    refine wpAnyH_ready (rs := [11]) (by kernel_rfl) (by simp) ?_
    refine AllReadyH.cons rfl (fun K5 hK5 => ?_) AllReadyH.nil
    go_simp
    go_at_call 12
    (with_reducible refine (HTY.out _ B11.out).mono ?_)
    rintro e w12 ⟨A12, c12, rfl, t12, b12⟩
    have T12 := Lib.hid t12
    have T11b := Lib.hid (T11.out.below b12)
    have B12 := Lib.hid (below_step B11.out b12)
    have R12 := Lib.hid (R11.out.below b12)
    have Y12 := Lib.hid (Y11.out.below b12)
    have hS12 : (fun w' : World => (convert 25 9 (.slice A2 128 c2)).run Tryd.prog w' = .ok (.string ⟨(cPage kind (lq q)).toArray⟩) w' ∧ (convert 25 9 (.slice A3 128 c3)).run Tryd.prog w' = .ok (.string ⟨(cPage kind (lq p)).toArray⟩) w') w12 := ⟨run_string_of (P := Tryd.prog) w12 25 9 5 Tryd.underlying25 Tryd.underlying5 Tryd.underlying9 (cap := c2) HPL.out.symm R12.out.reads, run_string_of (P := Tryd.prog) w12 25 9 5 Tryd.underlying25 Tryd.underlying5 Tryd.underlying9 (cap := c3) HPM.out.symm Y12.out.reads⟩
    clear t12 b12
    refine hK5.out _ _ hS12 (fun _ => ?_)
    clear hK5 K5
    refine wpAnyH_ready (rs := [12]) (by kernel_rfl) (by simp) ?_
    refine AllReadyH.cons rfl (fun K5 hK5 => ?_) AllReadyH.nil
    go_simp
    go_at_call 17
    (with_reducible refine (same_any2 _ _ _ _ _ _ _ _ _ false hv T11b.out T12.out ?_).mono ?_)
    · have := HQL.out; omega
    rintro e w13 ⟨rfl, b13⟩
    have BX := Lib.hid (below_step B12.out b13)
    have RX := Lib.hid (R12.out.below b13)
    have YX := Lib.hid (Y12.out.below b13)
    have hS13 : (fun w' : World => (convert 25 9 (.slice A2 128 c2)).run Tryd.prog w' = .ok (.string ⟨(cPage kind (lq q)).toArray⟩) w' ∧ (convert 25 9 (.slice A3 128 c3)).run Tryd.prog w' = .ok (.string ⟨(cPage kind (lq p)).toArray⟩) w') w13 := ⟨run_string_of (P := Tryd.prog) w13 25 9 5 Tryd.underlying25 Tryd.underlying5 Tryd.underlying9 (cap := c2) HPL.out.symm RX.out.reads, run_string_of (P := Tryd.prog) w13 25 9 5 Tryd.underlying25 Tryd.underlying5 Tryd.underlying9 (cap := c3) HPM.out.symm YX.out.reads⟩
    clear b13
    refine hK5.out _ _ hS13 (fun _ => ?_)
    clear hK5 K5
    refine wpAnyH_take (i := 13) (v := .bool false) rfl (by kernel_rfl) (by kernel_rfl) (by kernel_rfl) (fun _ _ _ h => h) (Or.inl ⟨by rfl, ?_⟩) hS13 ?_
    · rintro w6 ⟨s1, s2⟩
      go_simp
    simp only [Act.put, List.setIfInBounds_toArray, List.set_cons_zero, List.set_cons_succ, List.getElem_toArray, List.getElem_cons_zero, List.getElem_cons_succ]
    refine wpAnyH_take (i := 14) (v := .bool false) rfl (by kernel_rfl) (by kernel_rfl) (by kernel_rfl) (fun _ _ _ h => h) (Or.inl ⟨by rfl, ?_⟩) hS13 ?_
    · rintro w6 ⟨s1, s2⟩
      go_simp
    simp only [Act.put, List.setIfInBounds_toArray, List.set_cons_zero, List.set_cons_succ, List.getElem_toArray, List.getElem_cons_zero, List.getElem_cons_succ]
    refine wpAnyH_done (by kernel_rfl) ?_ _
    refine hK _ _ ?_
    have hS13 := Lib.hid hS13
    obtain ⟨w8, hw8⟩ : ∃ w8, w13 = w8 := ⟨_, rfl⟩
    rw [hw8] at BX RX ⊢
    clear hw8
    go_wp2_with (first
     | (go_at_call 13; (with_reducible refine (HZ.out _ BX.out).mono ?_); rintro e w9 ⟨rfl, rfl⟩; obtain ⟨g, off, rfl, hlo, hcl, hfr, har⟩ := row_turn RX.out HPL.out G1.out G2.out (cSz (lq p) % 128) (by rw [HPL.out]; exact hal); have HAR := Lib.hid har; have HLO := Lib.hid hlo; have HTU := Lib.hid (unpN_sum (b := (cPage kind (lq q)).set (cSz (lq p) % 128) ((cPage kind (lq q))[cSz (lq p) % 128]'(by rw [HPL.out]; exact hal) ^^^ 1)) (by rw [List.length_set, HPL.out]) (turned (cPage kind (lq q)) (cSz (lq p) % 128) (by rw [HPL.out]; exact hal) HTG.out)); have hxo := xor_one ((cPage kind (lq q))[cSz (lq p) % 128]'(by rw [HPL.out]; exact hal)); generalize (cPage kind (lq q))[cSz (lq p) % 128]'_ = x at *; have hxl := x.toNat_lt; obtain ⟨y, hy⟩ : ∃ y, x ^^^ 1 = y := ⟨_, rfl⟩; rw [hy] at hxo HAR HTU; clear har hlo hy)
     | (go_at_call 15; have hu := HU2.out _ c2 _ _ (BX.out.setCell HLO.out (p := ⟨g, off + cSz (lq p) % 128, none⟩) (.int .u8 (y.toNat : Int))) HAR.out; rw [HTU.out] at hu; (with_reducible refine hu.mono ?_); rintro e w10 ⟨A10, n10, c10, q10, rfl, _, _, b10⟩; have B10 := Lib.hid (below_step (BX.out.setCell HLO.out (p := ⟨g, off + cSz (lq p) % 128, none⟩) (.int .u8 (y.toNat : Int))) b10); clear hu b10))
    go_ret
    exact ⟨rfl, B10.out⟩

theorem walkCeBack (kind : UInt8) (A B : Option Addr) (n c m d : Nat) (q p : List Hd) (w : World) (ht : Tab w) (h : CellsA w A n c q) (k : CellsA w B m d p) :
    Calls Tryd.prog 5 #[.int .u8 (kind.toNat : Int), .slice A n c, .slice B m d] w fun e w' => e = .returned (.bool true) ∧ Below w.heap.size w w' := by
  by_cases hs : smallB q = true ∧ smallB p = true
  · by_cases hy : cFits kind (lq q)
    · by_cases hz : cFits kind (lq p)
      · exact ceBack_two kind A B n c m d q p w ht h k hs.1 hs.2 hy hz
      · exact ceBack_one kind A B n c m d q p w ht h k hs.1 hs.2 hy hz
    · exact ceBack_no kind A B n c m d q p w ht h k hs.1 hs.2 hy
  · have HT := Lib.hid ht
    have HSM := Lib.hid (fun w1 (hb : Below w.heap.size w w1) => small07_any A n c q w1 (h.below hb))
    have HSN := Lib.hid (fun w1 (hb : Below w.heap.size w w1) => small07_any B m d p w1 (k.below hb))
    obtain ⟨u, hu⟩ : ∃ u, smallB q = u := ⟨_, rfl⟩
    obtain ⟨v, hv⟩ : ∃ v, smallB p = v := ⟨_, rfl⟩
    rw [hu, hv] at hs
    rw [hu] at HSM
    rw [hv] at HSN
    clear ht h k hu hv
    cases u <;> cases v <;> simp at hs
    all_goals
      go_enter Tryd.func5, Tryd.ntmps5
      go_wp2_with (first
        | (go_at_call 8; (with_reducible refine (awake07_any _ HT.out).mono ?_); rintro e w0 ⟨rfl, h0⟩; have B0 := Lib.hid h0; clear h0)
        | (go_at_call 9; (with_reducible refine (HSM.out _ B0.out).mono ?_); rintro e w1 ⟨rfl, rfl⟩)
        | (go_at_call 9; (with_reducible refine (HSN.out _ B0.out).mono ?_); rintro e w1 ⟨rfl, rfl⟩))
      go_ret
      exact ⟨rfl, B0.out⟩

end Go.Proofs.YtlehajpadiiicaaDoor
