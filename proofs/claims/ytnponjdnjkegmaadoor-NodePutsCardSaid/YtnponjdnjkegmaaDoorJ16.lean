import Derived.Test.YtnponjdnjkegmaaDoorJNeu
import Derived.Test.YtnponjdnjkegmaaDoorJ11
import Derived.Test.YtnponjdnjkegmaaDoorJ04
/- Of a claim's texts, joined: Nev New Nex. No statement but in the last. -/
section
namespace Go.Proofs.YtnponjdnjkegmaaDoor
open Go.RowKit
set_option linter.unusedVariables false

theorem r8Put_no (leaf : Bool) (A : Option Addr) (n c : Nat) (l : List En) (w : World) (h : NodA w A n c l) (hf : FewN l) (hc : ¬ checkN leaf l) :
    Calls Tryd.prog 12 #[.agg #[.bool leaf, .slice A n c]] w (RPackEnd [] 1 w) := by
  obtain ⟨W, hW⟩ : ∃ W, w.alloc (.cells #[.bool leaf, .slice A n c] 29) = W := ⟨_, rfl⟩
  have BW : Below w.heap.size w W := hW ▸ (Below.refl _ w).alloc (Nat.le_refl _) _
  have hX : Has W w.heap.size 29 #[.bool leaf, .slice A n c] := hW ▸ Has.made w _ _
  have e0 := hX.cell 0
  have e1 := hX.cell 1
  have HC := Lib.hid (r8Check_any leaf A n c l W (h.below BW) hf)
  rw [decide_eq_false hc] at HC
  have HB := Lib.hid BW
  clear h hf hc BW hX
  go_enter Tryd.func12, Tryd.ntmps12
  go_wp2_with (go_at_call 18; (try rw [hW]); (with_reducible refine HC.out.mono ?_); rintro r1 w1 ⟨rfl, b1⟩; have B1 := Lib.hid (below_step HB.out b1); clear b1)
  go_ret2
  exact ⟨rfl, B1.out⟩

theorem r8Put_yes_true (A : Option Addr) (n c : Nat) (l : List En) (w : World) (h : NodA w A n c l) (hf : FewN l) (hc : checkN true l) :
    Calls Tryd.prog 12 #[.agg #[.bool true, .slice A n c]] w (RPackEnd (cPage 1 (cellsE true l)) 0 w) := by
  obtain ⟨W, hW⟩ : ∃ W, w.alloc (.cells #[.bool true, .slice A n c] 29) = W := ⟨_, rfl⟩
  have BW : Below w.heap.size w W := hW ▸ (Below.refl _ w).alloc (Nat.le_refl _) _
  have hX : Has W w.heap.size 29 #[.bool true, .slice A n c] := hW ▸ Has.made w _ _
  have e0 := hX.cell 0
  have e1 := hX.cell 1
  have HX := Lib.hid hX
  have HC := Lib.hid (r8Check_any true A n c l W (h.below BW) hf)
  rw [decide_eq_true hc] at HC
  have HB := Lib.hid BW
  have HCE := Lib.hid (fun w1 (hb : Below w.heap.size w w1) => r8Cells_any true A n c l w1 (h.below hb) hf)
  have HPK : Hid (∀ A c w1, TxtA w1 A (cellsE true l).length (cellsE true l) → Calls Tryd.prog 19 #[.int .u8 1, .slice A (cellsE true l).length c] w1 (RPackEnd (cPage 1 (cellsE true l)) 0 w1)) := Lib.hid (fun A c w1 (ht : TxtA w1 A (cellsE true l).length (cellsE true l)) => r7Pack_yes 1 A _ c (cellsE true l) w1 ht (checkN_fits hc))
  clear h hf hc BW hX
  go_enter Tryd.func12, Tryd.ntmps12
  go_wp2_with (first
    | (go_at_call 18; (try rw [hW]); (with_reducible refine HC.out.mono ?_); rintro r1 w1 ⟨rfl, b1⟩; have X1 := HX.out.below b1 HX.out.lt; have f0 := X1.cell 0; have f1 := X1.cell 1; have B1 := Lib.hid (below_step HB.out b1); clear b1 X1)
    | (go_at_call 16; (with_reducible refine (HCE.out _ B1.out).mono ?_); rintro r2 w2 ⟨A2, c2, rfl, t2, b2⟩; have T2 := Lib.hid t2; have B2 := Lib.hid (below_step B1.out b2); clear t2 b2)
    | (go_at_call 19; (with_reducible refine (HPK.out _ _ _ T2.out).mono ?_); rintro r3 w3 ⟨rfl, b3⟩; have B3 := Lib.hid (below_step B2.out b3); clear b3))
  go_ret2
  exact ⟨rfl, B3.out⟩

theorem r8Put_yes_false (A : Option Addr) (n c : Nat) (l : List En) (w : World) (h : NodA w A n c l) (hf : FewN l) (hc : checkN false l) :
    Calls Tryd.prog 12 #[.agg #[.bool false, .slice A n c]] w (RPackEnd (cPage 2 (cellsE false l)) 0 w) := by
  obtain ⟨W, hW⟩ : ∃ W, w.alloc (.cells #[.bool false, .slice A n c] 29) = W := ⟨_, rfl⟩
  have BW : Below w.heap.size w W := hW ▸ (Below.refl _ w).alloc (Nat.le_refl _) _
  have hX : Has W w.heap.size 29 #[.bool false, .slice A n c] := hW ▸ Has.made w _ _
  have e0 := hX.cell 0
  have e1 := hX.cell 1
  have HX := Lib.hid hX
  have HC := Lib.hid (r8Check_any false A n c l W (h.below BW) hf)
  rw [decide_eq_true hc] at HC
  have HB := Lib.hid BW
  have HCE := Lib.hid (fun w1 (hb : Below w.heap.size w w1) => r8Cells_any false A n c l w1 (h.below hb) hf)
  have HPK : Hid (∀ A c w1, TxtA w1 A (cellsE false l).length (cellsE false l) → Calls Tryd.prog 19 #[.int .u8 2, .slice A (cellsE false l).length c] w1 (RPackEnd (cPage 2 (cellsE false l)) 0 w1)) := Lib.hid (fun A c w1 (ht : TxtA w1 A (cellsE false l).length (cellsE false l)) => r7Pack_yes 2 A _ c (cellsE false l) w1 ht (checkN_fits hc))
  clear h hf hc BW hX
  go_enter Tryd.func12, Tryd.ntmps12
  go_wp2_with (first
    | (go_at_call 18; (try rw [hW]); (with_reducible refine HC.out.mono ?_); rintro r1 w1 ⟨rfl, b1⟩; have X1 := HX.out.below b1 HX.out.lt; have f0 := X1.cell 0; have f1 := X1.cell 1; have B1 := Lib.hid (below_step HB.out b1); clear b1 X1)
    | (go_at_call 16; (with_reducible refine (HCE.out _ B1.out).mono ?_); rintro r2 w2 ⟨A2, c2, rfl, t2, b2⟩; have T2 := Lib.hid t2; have B2 := Lib.hid (below_step B1.out b2); clear t2 b2)
    | (go_at_call 19; (with_reducible refine (HPK.out _ _ _ T2.out).mono ?_); rintro r3 w3 ⟨rfl, b3⟩; have B3 := Lib.hid (below_step B2.out b3); clear b3))
  go_ret2
  exact ⟨rfl, B3.out⟩

theorem r8Put_yes (leaf : Bool) (A : Option Addr) (n c : Nat) (l : List En) (w : World) (h : NodA w A n c l) (hf : FewN l) (hc : checkN leaf l) :
    Calls Tryd.prog 12 #[.agg #[.bool leaf, .slice A n c]] w (RPackEnd (cPage (kindN leaf) (cellsE leaf l)) 0 w) := by
  cases leaf
  · exact r8Put_yes_false A n c l w h hf hc
  · exact r8Put_yes_true A n c l w h hf hc

/-! The entry of a cell. -/
theorem tinfo8 : (Tryd.prog.info? 105).map (fun i => (i.zero, i.size)) = some (some (.agg #[.string ⟨#[]⟩, .int .i64 0]), 2) := by kernel_rfl
theorem zero_t (w : World) : (zeroValue 105).run Tryd.prog w = .ok (.agg #[.string ⟨#[]⟩, .int .i64 0]) w := by
  obtain ⟨i, hi, h⟩ := Option.map_eq_some_iff.1 tinfo8
  simp only [Prod.mk.injEq] at h
  simp [zeroValue, typeInfo, hi, h.1]
def ROneEnd (r : En × Bool) (w : World) (e : Ending) (w' : World) : Prop := e = .returned (.tuple #[enV r.1, .bool r.2]) ∧ Below w.heap.size w w'
theorem one_box (w : World) (s : ByteArray) : ∃ W, (w.alloc (.cells #[.string ⟨#[]⟩, .string ⟨#[]⟩, .bool false, .int .i64 0, .int .i64 0] 58)).alloc (.cells #[.string s, .int .i64 0] 105) = W ∧ Below w.heap.size w W ∧ Has W w.heap.size 58 #[.string ⟨#[]⟩, .string ⟨#[]⟩, .bool false, .int .i64 0, .int .i64 0] ∧ Has W (w.heap.size + 1) 105 #[.string s, .int .i64 0] := by
  refine ⟨_, rfl, ((Below.refl _ w).alloc (Nat.le_refl _) _).alloc (by simp) _, (Has.made w _ _).alloc _, ?_⟩
  have := Has.made (w.alloc (.cells #[.string ⟨#[]⟩, .string ⟨#[]⟩, .bool false, .int .i64 0, .int .i64 0] 58)) 105 #[.string s, .int .i64 0]
  simpa using this
theorem RT.away {w : World} {Q : Nat} {l : List UInt8} {er : Int} (h : RT w Q l er) {p : Addr} (hp : Q ≠ p.block) (u : Value) : RT (w.setCell p u) Q l er := Has.away h hp u
def stE5 (w : World) (B : Nat) (v0 v1 v2 v3 v4 : Value) : World := ((((w.setCell ⟨B, 0, none⟩ v0).setCell ⟨B, 1, none⟩ v1).setCell ⟨B, 2, none⟩ v2).setCell ⟨B, 3, none⟩ v3).setCell ⟨B, 4, none⟩ v4
theorem Has.setE {w : World} {B : Nat} {t : TypeId} {a0 a1 a2 a3 a4 : Value} (h : Has w B t #[a0, a1, a2, a3, a4]) (v0 v1 v2 v3 v4 : Value) : Has (stE5 w B v0 v1 v2 v3 v4) B t #[v0, v1, v2, v3, v4] := by
  have := ((((h.store 0 v0).store 1 v1).store 2 v2).store 3 v3).store 4 v4
  simpa [stE5] using this
theorem Has.setE_away {w : World} {B g : Nat} {t : TypeId} {cs : Array Value} (h : Has w g t cs) (hne : g ≠ B) (v0 v1 v2 v3 v4 : Value) : Has (stE5 w B v0 v1 v2 v3 v4) g t cs :=
  ((((h.away (p := ⟨B, 0, none⟩) hne v0).away (p := ⟨B, 1, none⟩) hne v1).away (p := ⟨B, 2, none⟩) hne v2).away (p := ⟨B, 3, none⟩) hne v3).away (p := ⟨B, 4, none⟩) hne v4
theorem below_setE {b B : Nat} {a w : World} (h : Below b a w) (hB : b ≤ B) (v0 v1 v2 v3 v4 : Value) : Below b a (stE5 w B v0 v1 v2 v3 v4) :=
  ((((h.setCell (p := ⟨B, 0, none⟩) hB v0).setCell (p := ⟨B, 1, none⟩) hB v1).setCell (p := ⟨B, 2, none⟩) hB v2).setCell (p := ⟨B, 3, none⟩) hB v3).setCell (p := ⟨B, 4, none⟩) hB v4

set_option maxRecDepth 100000 in
set_option maxHeartbeats 8000000 in
theorem r8one_false (l : List UInt8) (w : World) (hl : l.length ≤ 1000000) :
    Calls Tryd.prog 38 #[.bool false, .string ⟨l.toArray⟩] w (ROneEnd (oneE false l) w) := by
  have hmx : Tryd.prog.follows .mixedOrders = true := by kernel_rfl
  have hzt := zero_t
  have hze := zero_re
  obtain ⟨W, hW, hb, hr, hq⟩ := one_box w ⟨l.toArray⟩
  have HB := Lib.hid hb
  have HR := Lib.hid hr
  have HT := Lib.hid (rtText_any (w.heap.size + 1) l 0 W hq hl)
  have hl1 := stT_len l 0
  have hs : W.heap.size = w.heap.size + 2 := by rw [← hW]; simp
  have HS := Lib.hid hs
  have hans : oneE false l = (⟨(stT l 0).1, [], false, 0, ((stN (stT l 0).2.1 (stT l 0).2.2 2).1 : Int)⟩, decide (dn (stN (stT l 0).2.1 (stT l 0).2.2 2).2.1 (stN (stT l 0).2.1 (stT l 0).2.2 2).2.2 = 0)) := rfl
  rw [hans]
  clear hans
  obtain ⟨kk, l1, er1, hst⟩ : ∃ kk l1 er1, stT l 0 = (kk, l1, er1) := ⟨_, _, _, rfl⟩
  rw [hst] at HT hl1 ⊢
  simp only at HT hl1 ⊢
  have HN1 := Lib.hid (fun w1 (h : RT w1 (w.heap.size + 1) l1 er1) => rtNum_any (w.heap.size + 1) l1 er1 2 w1 h (by omega))
  have hx := stN_two_le l1 er1
  obtain ⟨x, l2, er2, hst2⟩ : ∃ x l2 er2, stN l1 er1 2 = (x, l2, er2) := ⟨_, _, _, rfl⟩
  rw [hst2] at HN1 hx ⊢
  simp only at HN1 hx ⊢
  have HDN := Lib.hid (fun w1 (h : RT w1 (w.heap.size + 1) l2 er2) => rtDone_any (w.heap.size + 1) l2 er2 w1 h)
  obtain ⟨ok, hok⟩ : ∃ ok, decide (dn l2 er2 = 0) = ok := ⟨_, rfl⟩
  rw [hok]
  have hok2 : (dn l2 er2 == 0) = ok := by rw [← hok]; rfl
  unfold ROneEnd enV cstV
  unfold RStrEnd at HT
  simp only
  obtain ⟨ks, hks⟩ : ∃ ks : ByteArray, (⟨kk.toArray⟩ : ByteArray) = ks := ⟨_, rfl⟩
  rw [hks] at HT ⊢
  unfold RNumEnd at HN1
  clear hst hst2 hb hr hq hks hok hs
  go_enter Tryd.func38, Tryd.ntmps38
  go_wp2_with (first
    | (go_at_call 48; (try rw [hW]); (with_reducible refine HT.out.mono ?_); rintro r1 w1 ⟨rfl, t1, g1⟩; have B1 := Lib.hid (HB.out.trans (below_only g1 (by omega) HB.out.size)); have R1 := HR.out.grown g1 (by intro e; injection e with e; omega); obtain ⟨E, hE⟩ : ∃ E, w1.heap.size = E := ⟨_, rfl⟩; obtain ⟨W2, hW2⟩ : ∃ W2, w1.alloc (.cells #[.string ks, .string ⟨#[]⟩, .bool false, .int .i64 0, .int .i64 0] 58) = W2 := ⟨_, rfl⟩; have E2 := Lib.hid (show Has W2 E 58 #[.string ks, .string ⟨#[]⟩, .bool false, .int .i64 0, .int .i64 0] from hE ▸ hW2 ▸ Has.made w1 _ _); have B2 := Lib.hid (show Below w.heap.size w W2 from hW2 ▸ B1.out.alloc B1.out.size _); have T2 := Lib.hid (show RT W2 (w.heap.size + 1) l1 er1 from hW2 ▸ Has.alloc t1 _); have R2 := Lib.hid (show Has W2 w.heap.size 58 #[.string ⟨#[]⟩, .string ⟨#[]⟩, .bool false, .int .i64 0, .int .i64 0] from hW2 ▸ R1.alloc _); have hEq : w.heap.size + 1 < E := hE ▸ Has.lt t1; subst hE; have HW2 := Lib.hid hW2; clear t1 g1 R1 hW2)
    | (go_at_call 49; (try rw [HW2.out]); (with_reducible refine (HN1.out _ T2.out).mono ?_); rintro r3 w3 ⟨rfl, t3, g3⟩; have T3 := Lib.hid t3; have B3 := Lib.hid (B2.out.trans (below_only g3 (by omega) B2.out.size)); have y3 := E2.out.grown g3 (by intro e; injection e with e; omega); have f30 := y3.free 0; have f31 := y3.free 1; have f32 := y3.free 2; have f33 := y3.free 3; have f34 := y3.free 4; have E3 := Lib.hid y3; have R3 := Lib.hid (R2.out.grown g3 (by intro e; injection e with e; omega)); have z30 := y3.cell 0; have z31 := y3.cell 1; have z32 := y3.cell 2; have z33 := y3.cell 3; have z34 := y3.cell 4; clear t3 g3 y3))
  have XE : Has (w3.setCell ⟨w1.heap.size, 4, none⟩ (.int .i64 (x : Int))) w1.heap.size 58 #[.string ks, .string ⟨#[]⟩, .bool false, .int .i64 0, .int .i64 (x : Int)] := by simpa using E3.out.store 4 (.int .i64 (x : Int))
  have XR := R3.out.away (p := ⟨w1.heap.size, 4, none⟩) (show w.heap.size ≠ w1.heap.size by omega) (.int .i64 (x : Int))
  have XT : RT (w3.setCell ⟨w1.heap.size, 4, none⟩ (.int .i64 (x : Int))) (w.heap.size + 1) l2 er2 := RT.away T3.out (p := ⟨w1.heap.size, 4, none⟩) (show w.heap.size + 1 ≠ w1.heap.size by omega) _
  have BXX := B3.out.setCell (p := ⟨w1.heap.size, 4, none⟩) (show w.heap.size ≤ w1.heap.size by omega) (.int .i64 (x : Int))
  generalize (w3.setCell ⟨w1.heap.size, 4, none⟩ (.int .i64 (x : Int))) = w4 at *
  have HD := Lib.hid (HDN.out w4.drew XT)
  have RX := Lib.hid XR
  have BX := Lib.hid BXX
  have r0 := XR.free 0
  have r1 := XR.free 1
  have r2 := XR.free 2
  have r3 := XR.free 3
  have r4 := XR.free 4
  have u0 := XR.cell 0
  have u1 := XR.cell 1
  have u2 := XR.cell 2
  have u3 := XR.cell 3
  have u4 := XR.cell 4
  have XD := XE
  clear XR BXX
  rename_i K hK
  refine wp_held (fun w' : World => Has w' w1.heap.size 58 #[.string ks, .string ⟨#[]⟩, .bool false, .int .i64 0, .int .i64 (x : Int)]) K hmx ?_ (fun _ _ h => h)
  refine wpAnyH_take (i := 0) (v := .agg #[.string ks, .string ⟨#[]⟩, .bool false, .int .i64 0, .int .i64 (x : Int)]) rfl (by kernel_rfl) (by kernel_rfl) (by kernel_rfl) (fun _ _ _ h => h) (Or.inl ⟨by rfl, ?_⟩) XD ?_
  · intro w6 s1
    have d0 := s1.cell 0
    have d1 := s1.cell 1
    have d2 := s1.cell 2
    have d3 := s1.cell 3
    have d4 := s1.cell 4
    go_simp
  simp only [Act.put, List.setIfInBounds_toArray, List.set_cons_zero, List.set_cons_succ, List.getElem_toArray, List.getElem_cons_zero]
  refine wpAnyH_take (i := 1) (v := .pointer (some ⟨w.heap.size + 1, 0, none⟩)) rfl (by kernel_rfl) (by kernel_rfl) (by kernel_rfl) (fun _ _ _ h => h) (Or.inl ⟨by rfl, ?_⟩) XD ?_
  · intro w6 s1
    go_simp
  simp only [Act.put, List.setIfInBounds_toArray, List.set_cons_zero, List.set_cons_succ, List.getElem_toArray, List.getElem_cons_zero, List.getElem_cons_succ]
  refine wpAnyH_ready (rs := [2]) (by kernel_rfl) (by simp) ?_
  refine AllReadyH.cons rfl (fun K5 hK5 => ?_) AllReadyH.nil
  go_simp
  go_at_call 50
  (with_reducible refine HD.out.mono ?_)
  rintro r9 w9 ⟨rfl, rfl⟩
  refine hK5.out _ _ XD (fun _ => ?_)
  clear hK5 K5
  refine wpAnyH_take (i := 3) (v := .bool ok) rfl (by kernel_rfl) (by kernel_rfl) (by kernel_rfl) (fun _ _ _ h => h) (Or.inl ⟨by rfl, ?_⟩) XD ?_
  · intro w6 s1
    go_simp
  simp only [Act.put, List.setIfInBounds_toArray, List.set_cons_zero, List.set_cons_succ, List.getElem_toArray, List.getElem_cons_zero, List.getElem_cons_succ]
  refine wpAnyH_ready (rs := [4]) (by kernel_rfl) (by simp) ?_
  refine AllReadyH.cons rfl (fun K5 hK5 => ?_) AllReadyH.nil
  go_simp
  have XS := XE.setE_away (B := w.heap.size) (show w1.heap.size ≠ w.heap.size by omega) (.string ks) (.string ⟨#[]⟩) (.bool false) (.int .i64 0) (.int .i64 (x : Int))
  refine hK5.out _ _ XS (fun _ => ?_)
  clear hK5 K5
  refine wpAnyH_ready (rs := [5]) (by kernel_rfl) (by simp) ?_
  refine AllReadyH.cons rfl (fun K5 hK5 => ?_) AllReadyH.nil
  go_simp
  refine hK5.out _ _ XS (fun _ => ?_)
  clear hK5 K5
  refine wpAnyH_done (by kernel_rfl) ?_ _
  refine hK _ _ ?_
  go_wp2
  have k1 := RX.out.setE (.string ks) (.string ⟨#[]⟩) (.bool false) (.int .i64 0) (.int .i64 (x : Int))
  have q0 := k1.cell 0
  have q1 := k1.cell 1
  have q2 := k1.cell 2
  have q3 := k1.cell 3
  have q4 := k1.cell 4
  unfold stE5 at q0 q1 q2 q3 q4
  refine ⟨rfl, .tuple #[.agg #[.string ks, .string ⟨#[]⟩, .bool false, .int .i64 0, .int .i64 (x : Int)], .bool ok], ?_, rfl, (below_setE BX.out (Nat.le_refl _) (.string ks) (.string ⟨#[]⟩) (.bool false) (.int .i64 0) (.int .i64 (x : Int))).drew⟩
  simp at q0 q1 q2 q3 q4
  simp [results, Tryd.f38, go_sem, q0, q1, q2, q3, q4]

end Go.Proofs.YtnponjdnjkegmaaDoor
end

section
namespace Go.Proofs.YtnponjdnjkegmaaDoor
open Go.RowKit
set_option linter.unusedVariables false

set_option maxRecDepth 100000 in
set_option maxHeartbeats 8000000 in
theorem r8one_far (l : List UInt8) (w : World) (hl : l.length ≤ 1000000) (hm : (stN (stT l 0).2.1 (stT l 0).2.2 1).1 = 1) :
    Calls Tryd.prog 38 #[.bool true, .string ⟨l.toArray⟩] w (ROneEnd (oneE true l) w) := by
  have hmx : Tryd.prog.follows .mixedOrders = true := by kernel_rfl
  have hzt := zero_t
  have hze := zero_re
  obtain ⟨W, hW, hb, hr, hq⟩ := one_box w ⟨l.toArray⟩
  have HB := Lib.hid hb
  have HR := Lib.hid hr
  have HT := Lib.hid (rtText_any (w.heap.size + 1) l 0 W hq hl)
  have hl1 := stT_len l 0
  have hs : W.heap.size = w.heap.size + 2 := by rw [← hW]; simp
  have HS := Lib.hid hs
  have hans : oneE true l = (⟨(stT l 0).1, [], true, ((stN (stN (stT l 0).2.1 (stT l 0).2.2 1).2.1 (stN (stT l 0).2.1 (stT l 0).2.2 1).2.2 2).1 : Int), ((stN (stN (stN (stT l 0).2.1 (stT l 0).2.2 1).2.1 (stN (stT l 0).2.1 (stT l 0).2.2 1).2.2 2).2.1 (stN (stN (stT l 0).2.1 (stT l 0).2.2 1).2.1 (stN (stT l 0).2.1 (stT l 0).2.2 1).2.2 2).2.2 2).1 : Int)⟩, decide (dn (stN (stN (stN (stT l 0).2.1 (stT l 0).2.2 1).2.1 (stN (stT l 0).2.1 (stT l 0).2.2 1).2.2 2).2.1 (stN (stN (stT l 0).2.1 (stT l 0).2.2 1).2.1 (stN (stT l 0).2.1 (stT l 0).2.2 1).2.2 2).2.2 2).2.1 (stN (stN (stN (stT l 0).2.1 (stT l 0).2.2 1).2.1 (stN (stT l 0).2.1 (stT l 0).2.2 1).2.2 2).2.1 (stN (stN (stT l 0).2.1 (stT l 0).2.2 1).2.1 (stN (stT l 0).2.1 (stT l 0).2.2 1).2.2 2).2.2 2).2.2 = 0)) := by
    unfold oneE
    simp only [if_true, if_pos hm]
  rw [hans]
  clear hans
  have HM := hm
  obtain ⟨kk, l1, er1, hst⟩ : ∃ kk l1 er1, stT l 0 = (kk, l1, er1) := ⟨_, _, _, rfl⟩
  rw [hst] at HT hl1 HM ⊢
  simp only at HT hl1 HM ⊢
  have HN1 := Lib.hid (fun w1 (h : RT w1 (w.heap.size + 1) l1 er1) => rtNum_any (w.heap.size + 1) l1 er1 1 w1 h (by omega))
  have hl2 := stN_len l1 er1 1
  obtain ⟨m, l2, er2, hst2⟩ : ∃ m l2 er2, stN l1 er1 1 = (m, l2, er2) := ⟨_, _, _, rfl⟩
  rw [hst2] at HN1 hl2 HM ⊢
  simp only at HN1 hl2 HM ⊢
  subst HM
  have HN2 := Lib.hid (fun w1 (h : RT w1 (w.heap.size + 1) l2 er2) => rtNum_any (w.heap.size + 1) l2 er2 2 w1 h (by omega))
  have hx := stN_two_le l2 er2
  have hl3 := stN_len l2 er2 2
  obtain ⟨x, l3, er3, hst3⟩ : ∃ x l3 er3, stN l2 er2 2 = (x, l3, er3) := ⟨_, _, _, rfl⟩
  rw [hst3] at HN2 hx hl3 ⊢
  simp only at HN2 hx hl3 ⊢
  have HN3 := Lib.hid (fun w1 (h : RT w1 (w.heap.size + 1) l3 er3) => rtNum_any (w.heap.size + 1) l3 er3 2 w1 h (by omega))
  have hz := stN_two_le l3 er3
  obtain ⟨z, l4, er4, hst4⟩ : ∃ z l4 er4, stN l3 er3 2 = (z, l4, er4) := ⟨_, _, _, rfl⟩
  rw [hst4] at HN3 hz ⊢
  simp only at HN3 hz ⊢
  have HDN := Lib.hid (fun w1 (h : RT w1 (w.heap.size + 1) l4 er4) => rtDone_any (w.heap.size + 1) l4 er4 w1 h)
  obtain ⟨ok, hok⟩ : ∃ ok, decide (dn l4 er4 = 0) = ok := ⟨_, rfl⟩
  rw [hok]
  have hok2 : (dn l4 er4 == 0) = ok := by rw [← hok]; rfl
  unfold ROneEnd enV cstV
  unfold RStrEnd at HT
  simp only
  obtain ⟨ks, hks⟩ : ∃ ks : ByteArray, (⟨kk.toArray⟩ : ByteArray) = ks := ⟨_, rfl⟩
  rw [hks] at HT ⊢
  unfold RNumEnd at HN1
  unfold RNumEnd at HN2 HN3
  clear hm hst hst2 hst3 hst4 hb hr hq hks hok hs
  go_enter Tryd.func38, Tryd.ntmps38
  go_wp2_with (first
    | (go_at_call 48; (try rw [hW]); (with_reducible refine HT.out.mono ?_); rintro r1 w1 ⟨rfl, t1, g1⟩; have B1 := Lib.hid (HB.out.trans (below_only g1 (by omega) HB.out.size)); have R1 := HR.out.grown g1 (by intro e; injection e with e; omega); obtain ⟨E, hE⟩ : ∃ E, w1.heap.size = E := ⟨_, rfl⟩; obtain ⟨W2, hW2⟩ : ∃ W2, w1.alloc (.cells #[.string ks, .string ⟨#[]⟩, .bool false, .int .i64 0, .int .i64 0] 58) = W2 := ⟨_, rfl⟩; have E2 := Lib.hid (show Has W2 E 58 #[.string ks, .string ⟨#[]⟩, .bool false, .int .i64 0, .int .i64 0] from hE ▸ hW2 ▸ Has.made w1 _ _); have B2 := Lib.hid (show Below w.heap.size w W2 from hW2 ▸ B1.out.alloc B1.out.size _); have T2 := Lib.hid (show RT W2 (w.heap.size + 1) l1 er1 from hW2 ▸ Has.alloc t1 _); have R2 := Lib.hid (show Has W2 w.heap.size 58 #[.string ⟨#[]⟩, .string ⟨#[]⟩, .bool false, .int .i64 0, .int .i64 0] from hW2 ▸ R1.alloc _); have hEq : w.heap.size + 1 < E := hE ▸ Has.lt t1; subst hE; have HW2 := Lib.hid hW2; clear t1 g1 R1 hW2)
    | (go_at_call 49; (try rw [HW2.out]); (with_reducible refine (HN1.out _ T2.out).mono ?_); rintro r3 w3 ⟨rfl, t3, g3⟩; have T3 := Lib.hid t3; have B3 := Lib.hid (B2.out.trans (below_only g3 (by omega) B2.out.size)); have y3 := E2.out.grown g3 (by intro e; injection e with e; omega); have f30 := y3.free 0; have f31 := y3.free 1; have f32 := y3.free 2; have f33 := y3.free 3; have f34 := y3.free 4; have E3 := Lib.hid y3; have R3 := Lib.hid (R2.out.grown g3 (by intro e; injection e with e; omega)); have z30 := y3.cell 0; have z31 := y3.cell 1; have z32 := y3.cell 2; have z33 := y3.cell 3; have z34 := y3.cell 4; clear t3 g3 y3)
    | (go_at_call 49; (with_reducible refine (HN2.out (w3.setCell ⟨w1.heap.size, 2, none⟩ (.bool true)) (RT.away T3.out (p := ⟨w1.heap.size, 2, none⟩) (show w.heap.size + 1 ≠ w1.heap.size by omega) _)).mono ?_); rintro r4 w4 ⟨rfl, t4, g4⟩; have T4 := Lib.hid t4; have B4 := Lib.hid ((B3.out.setCell (p := ⟨w1.heap.size, 2, none⟩) (show w.heap.size ≤ w1.heap.size by omega) (.bool true)).trans (below_only g4 (by omega) (by have := B3.out.size; simpa [World.setCell] using this))); have y4 : Has w4 w1.heap.size 58 #[.string ks, .string ⟨#[]⟩, .bool true, .int .i64 0, .int .i64 0] := (by have := (E3.out.store 2 (.bool true)).grown g4 (by intro e; injection e with e; omega); simpa using this); have R4 := Lib.hid ((R3.out.away (p := ⟨w1.heap.size, 2, none⟩) (show w.heap.size ≠ w1.heap.size by omega) (.bool true)).grown g4 (by intro e; injection e with e; omega)); have E4 := Lib.hid y4; have k40 := y4.cell 3; have k41 := y4.free 3; clear t4 g4 y4)
    | (go_at_call 49; (with_reducible refine (HN3.out (w4.setCell ⟨w1.heap.size, 3, none⟩ (.int .i64 (x : Int))) (RT.away T4.out (p := ⟨w1.heap.size, 3, none⟩) (show w.heap.size + 1 ≠ w1.heap.size by omega) _)).mono ?_); rintro r5 w5 ⟨rfl, t5, g5⟩; have T5 := Lib.hid t5; have B5 := Lib.hid ((B4.out.setCell (p := ⟨w1.heap.size, 3, none⟩) (show w.heap.size ≤ w1.heap.size by omega) (.int .i64 (x : Int))).trans (below_only g5 (by omega) (by have := B4.out.size; simpa [World.setCell] using this))); have y5 : Has w5 w1.heap.size 58 #[.string ks, .string ⟨#[]⟩, .bool true, .int .i64 (x : Int), .int .i64 0] := (by have := (E4.out.store 3 (.int .i64 (x : Int))).grown g5 (by intro e; injection e with e; omega); simpa using this); have R5 := Lib.hid ((R4.out.away (p := ⟨w1.heap.size, 3, none⟩) (show w.heap.size ≠ w1.heap.size by omega) (.int .i64 (x : Int))).grown g5 (by intro e; injection e with e; omega)); have E5 := Lib.hid y5; have k50 := y5.cell 4; have k51 := y5.free 4; clear t5 g5 y5))
  have XE : Has (w5.setCell ⟨w1.heap.size, 4, none⟩ (.int .i64 (z : Int))) w1.heap.size 58 #[.string ks, .string ⟨#[]⟩, .bool true, .int .i64 (x : Int), .int .i64 (z : Int)] := by simpa using E5.out.store 4 (.int .i64 (z : Int))
  have XR := R5.out.away (p := ⟨w1.heap.size, 4, none⟩) (show w.heap.size ≠ w1.heap.size by omega) (.int .i64 (z : Int))
  have XT : RT (w5.setCell ⟨w1.heap.size, 4, none⟩ (.int .i64 (z : Int))) (w.heap.size + 1) l4 er4 := RT.away T5.out (p := ⟨w1.heap.size, 4, none⟩) (show w.heap.size + 1 ≠ w1.heap.size by omega) _
  have BXX := B5.out.setCell (p := ⟨w1.heap.size, 4, none⟩) (show w.heap.size ≤ w1.heap.size by omega) (.int .i64 (z : Int))
  generalize (w5.setCell ⟨w1.heap.size, 4, none⟩ (.int .i64 (z : Int))) = w6 at *
  have HD := Lib.hid (HDN.out w6.drew XT)
  have RX := Lib.hid XR
  have BX := Lib.hid BXX
  have r0 := XR.free 0
  have r1 := XR.free 1
  have r2 := XR.free 2
  have r3 := XR.free 3
  have r4 := XR.free 4
  have u0 := XR.cell 0
  have u1 := XR.cell 1
  have u2 := XR.cell 2
  have u3 := XR.cell 3
  have u4 := XR.cell 4
  have XD := XE
  clear XR BXX
  rename_i K hK
  refine wp_held (fun w' : World => Has w' w1.heap.size 58 #[.string ks, .string ⟨#[]⟩, .bool true, .int .i64 (x : Int), .int .i64 (z : Int)]) K hmx ?_ (fun _ _ h => h)
  refine wpAnyH_take (i := 0) (v := .agg #[.string ks, .string ⟨#[]⟩, .bool true, .int .i64 (x : Int), .int .i64 (z : Int)]) rfl (by kernel_rfl) (by kernel_rfl) (by kernel_rfl) (fun _ _ _ h => h) (Or.inl ⟨by rfl, ?_⟩) XD ?_
  · intro w6 s1
    have d0 := s1.cell 0
    have d1 := s1.cell 1
    have d2 := s1.cell 2
    have d3 := s1.cell 3
    have d4 := s1.cell 4
    go_simp
  simp only [Act.put, List.setIfInBounds_toArray, List.set_cons_zero, List.set_cons_succ, List.getElem_toArray, List.getElem_cons_zero]
  refine wpAnyH_take (i := 1) (v := .pointer (some ⟨w.heap.size + 1, 0, none⟩)) rfl (by kernel_rfl) (by kernel_rfl) (by kernel_rfl) (fun _ _ _ h => h) (Or.inl ⟨by rfl, ?_⟩) XD ?_
  · intro w6 s1
    go_simp
  simp only [Act.put, List.setIfInBounds_toArray, List.set_cons_zero, List.set_cons_succ, List.getElem_toArray, List.getElem_cons_zero, List.getElem_cons_succ]
  refine wpAnyH_ready (rs := [2]) (by kernel_rfl) (by simp) ?_
  refine AllReadyH.cons rfl (fun K5 hK5 => ?_) AllReadyH.nil
  go_simp
  go_at_call 50
  (with_reducible refine HD.out.mono ?_)
  rintro r9 w9 ⟨rfl, rfl⟩
  refine hK5.out _ _ XD (fun _ => ?_)
  clear hK5 K5
  refine wpAnyH_take (i := 3) (v := .bool ok) rfl (by kernel_rfl) (by kernel_rfl) (by kernel_rfl) (fun _ _ _ h => h) (Or.inl ⟨by rfl, ?_⟩) XD ?_
  · intro w6 s1
    go_simp
  simp only [Act.put, List.setIfInBounds_toArray, List.set_cons_zero, List.set_cons_succ, List.getElem_toArray, List.getElem_cons_zero, List.getElem_cons_succ]
  refine wpAnyH_ready (rs := [4]) (by kernel_rfl) (by simp) ?_
  refine AllReadyH.cons rfl (fun K5 hK5 => ?_) AllReadyH.nil
  go_simp
  have XS := XE.setE_away (B := w.heap.size) (show w1.heap.size ≠ w.heap.size by omega) (.string ks) (.string ⟨#[]⟩) (.bool true) (.int .i64 (x : Int)) (.int .i64 (z : Int))
  refine hK5.out _ _ XS (fun _ => ?_)
  clear hK5 K5
  refine wpAnyH_ready (rs := [5]) (by kernel_rfl) (by simp) ?_
  refine AllReadyH.cons rfl (fun K5 hK5 => ?_) AllReadyH.nil
  go_simp
  refine hK5.out _ _ XS (fun _ => ?_)
  clear hK5 K5
  refine wpAnyH_done (by kernel_rfl) ?_ _
  refine hK _ _ ?_
  go_wp2
  have k1 := RX.out.setE (.string ks) (.string ⟨#[]⟩) (.bool true) (.int .i64 (x : Int)) (.int .i64 (z : Int))
  have q0 := k1.cell 0
  have q1 := k1.cell 1
  have q2 := k1.cell 2
  have q3 := k1.cell 3
  have q4 := k1.cell 4
  unfold stE5 at q0 q1 q2 q3 q4
  refine ⟨rfl, .tuple #[.agg #[.string ks, .string ⟨#[]⟩, .bool true, .int .i64 (x : Int), .int .i64 (z : Int)], .bool ok], ?_, rfl, (below_setE BX.out (Nat.le_refl _) (.string ks) (.string ⟨#[]⟩) (.bool true) (.int .i64 (x : Int)) (.int .i64 (z : Int))).drew⟩
  simp at q0 q1 q2 q3 q4
  simp [results, Tryd.f38, go_sem, q0, q1, q2, q3, q4]

end Go.Proofs.YtnponjdnjkegmaaDoor
end

section
namespace Go.Proofs.YtnponjdnjkegmaaDoor
open Go.RowKit
set_option linter.unusedVariables false

set_option maxRecDepth 100000 in
set_option maxHeartbeats 8000000 in
theorem r8one_in (l : List UInt8) (w : World) (hl : l.length ≤ 1000000) (hm : (stN (stT l 0).2.1 (stT l 0).2.2 1).1 ≠ 1) :
    Calls Tryd.prog 38 #[.bool true, .string ⟨l.toArray⟩] w (ROneEnd (oneE true l) w) := by
  have hmx : Tryd.prog.follows .mixedOrders = true := by kernel_rfl
  have hzt := zero_t
  have hze := zero_re
  obtain ⟨W, hW, hb, hr, hq⟩ := one_box w ⟨l.toArray⟩
  have HB := Lib.hid hb
  have HR := Lib.hid hr
  have HT := Lib.hid (rtText_any (w.heap.size + 1) l 0 W hq hl)
  have hl1 := stT_len l 0
  have hs : W.heap.size = w.heap.size + 2 := by rw [← hW]; simp
  have HS := Lib.hid hs
  have hans : oneE true l = (⟨(stT l 0).1, (stS (stN (stT l 0).2.1 (stT l 0).2.2 1).2.1 (stN (stT l 0).2.1 (stT l 0).2.2 1).2.2 (stN (stT l 0).2.1 (stT l 0).2.2 1).2.1.length).1, false, 0, 0⟩, decide ((stS (stN (stT l 0).2.1 (stT l 0).2.2 1).2.1 (stN (stT l 0).2.1 (stT l 0).2.2 1).2.2 (stN (stT l 0).2.1 (stT l 0).2.2 1).2.1.length).2.2 = 0) && decide ((stN (stT l 0).2.1 (stT l 0).2.2 1).1 = 0)) := by
    unfold oneE
    simp only [if_true, if_neg hm]
  rw [hans]
  clear hans
  have HM := hm
  obtain ⟨kk, l1, er1, hst⟩ : ∃ kk l1 er1, stT l 0 = (kk, l1, er1) := ⟨_, _, _, rfl⟩
  rw [hst] at HT hl1 HM ⊢
  simp only at HT hl1 HM ⊢
  have HN1 := Lib.hid (fun w1 (h : RT w1 (w.heap.size + 1) l1 er1) => rtNum_any (w.heap.size + 1) l1 er1 1 w1 h (by omega))
  have hl2 := stN_len l1 er1 1
  obtain ⟨m, l2, er2, hst2⟩ : ∃ m l2 er2, stN l1 er1 1 = (m, l2, er2) := ⟨_, _, _, rfl⟩
  rw [hst2] at HN1 hl2 HM ⊢
  simp only at HN1 hl2 HM ⊢
  have hm1 : ((m : Int) == 1) = false := beq_false_of_ne (by omega)
  have HN2 := Lib.hid (fun w1 (h : RT w1 (w.heap.size + 1) l2 er2) => rtRest_any (w.heap.size + 1) l2 er2 w1 h (by omega))
  obtain ⟨d, l3, er3, hst3⟩ : ∃ d l3 er3, stS l2 er2 l2.length = (d, l3, er3) := ⟨_, _, _, rfl⟩
  rw [hst3] at HN2 ⊢
  simp only at HN2 ⊢
  obtain ⟨o1, ho1⟩ : ∃ o1, decide (er3 = 0) = o1 := ⟨_, rfl⟩
  obtain ⟨o2, ho2⟩ : ∃ o2, decide (m = 0) = o2 := ⟨_, rfl⟩
  rw [ho1, ho2]
  have hp1 : (er3 == 0) = o1 := by rw [← ho1]; rfl
  have hp2 : ((m : Int) == 0) = o2 := by rw [← ho2]; by_cases h : m = 0 <;> simp [h]
  unfold ROneEnd enV cstV
  unfold RStrEnd at HT
  simp only
  obtain ⟨ks, hks⟩ : ∃ ks : ByteArray, (⟨kk.toArray⟩ : ByteArray) = ks := ⟨_, rfl⟩
  rw [hks] at HT ⊢
  unfold RNumEnd at HN1
  obtain ⟨ds, hds⟩ : ∃ ds : ByteArray, (⟨d.toArray⟩ : ByteArray) = ds := ⟨_, rfl⟩
  unfold RStrEnd at HN2
  rw [hds] at HN2 ⊢
  clear hm HM hst hst2 hst3 hb hr hq hks hds ho1 ho2 hs
  go_enter Tryd.func38, Tryd.ntmps38
  go_wp2_with (first
    | (go_at_call 48; (try rw [hW]); (with_reducible refine HT.out.mono ?_); rintro r1 w1 ⟨rfl, t1, g1⟩; have B1 := Lib.hid (HB.out.trans (below_only g1 (by omega) HB.out.size)); have R1 := HR.out.grown g1 (by intro e; injection e with e; omega); obtain ⟨E, hE⟩ : ∃ E, w1.heap.size = E := ⟨_, rfl⟩; obtain ⟨W2, hW2⟩ : ∃ W2, w1.alloc (.cells #[.string ks, .string ⟨#[]⟩, .bool false, .int .i64 0, .int .i64 0] 58) = W2 := ⟨_, rfl⟩; have E2 := Lib.hid (show Has W2 E 58 #[.string ks, .string ⟨#[]⟩, .bool false, .int .i64 0, .int .i64 0] from hE ▸ hW2 ▸ Has.made w1 _ _); have B2 := Lib.hid (show Below w.heap.size w W2 from hW2 ▸ B1.out.alloc B1.out.size _); have T2 := Lib.hid (show RT W2 (w.heap.size + 1) l1 er1 from hW2 ▸ Has.alloc t1 _); have R2 := Lib.hid (show Has W2 w.heap.size 58 #[.string ⟨#[]⟩, .string ⟨#[]⟩, .bool false, .int .i64 0, .int .i64 0] from hW2 ▸ R1.alloc _); have hEq : w.heap.size + 1 < E := hE ▸ Has.lt t1; subst hE; have HW2 := Lib.hid hW2; clear t1 g1 R1 hW2)
    | (go_at_call 49; (try rw [HW2.out]); (with_reducible refine (HN1.out _ T2.out).mono ?_); rintro r3 w3 ⟨rfl, t3, g3⟩; have T3 := Lib.hid t3; have B3 := Lib.hid (B2.out.trans (below_only g3 (by omega) B2.out.size)); have y3 := E2.out.grown g3 (by intro e; injection e with e; omega); have f30 := y3.free 0; have f31 := y3.free 1; have f32 := y3.free 2; have f33 := y3.free 3; have f34 := y3.free 4; have E3 := Lib.hid y3; have R3 := Lib.hid (R2.out.grown g3 (by intro e; injection e with e; omega)); have z30 := y3.cell 0; have z31 := y3.cell 1; have z32 := y3.cell 2; have z33 := y3.cell 3; have z34 := y3.cell 4; clear t3 g3 y3)
    | (go_at_call 51; (with_reducible refine (HN2.out _ T3.out).mono ?_); rintro r4 w4 ⟨rfl, t4, g4⟩; have T4 := Lib.hid t4; have B4 := Lib.hid (B3.out.trans (below_only g4 (by omega) B3.out.size)); have y4 := E3.out.grown g4 (by intro e; injection e with e; omega); have R4 := Lib.hid (R3.out.grown g4 (by intro e; injection e with e; omega)); have E4 := Lib.hid y4; have k40 := y4.cell 1; have k41 := y4.free 1; clear t4 g4 y4))
  have XE : Has (w4.setCell ⟨w1.heap.size, 1, none⟩ (.string ds)) w1.heap.size 58 #[.string ks, .string ds, .bool false, .int .i64 0, .int .i64 0] := by simpa using E4.out.store 1 (.string ds)
  have XR := R4.out.away (p := ⟨w1.heap.size, 1, none⟩) (show w.heap.size ≠ w1.heap.size by omega) (.string ds)
  have XT : RT (w4.setCell ⟨w1.heap.size, 1, none⟩ (.string ds)) (w.heap.size + 1) l3 er3 := RT.away T4.out (p := ⟨w1.heap.size, 1, none⟩) (show w.heap.size + 1 ≠ w1.heap.size by omega) _
  have BXX := B4.out.setCell (p := ⟨w1.heap.size, 1, none⟩) (show w.heap.size ≤ w1.heap.size by omega) (.string ds)
  generalize (w4.setCell ⟨w1.heap.size, 1, none⟩ (.string ds)) = w6 at *
  have RX := Lib.hid XR
  have BX := Lib.hid BXX
  have r0 := XR.free 0
  have r1 := XR.free 1
  have r2 := XR.free 2
  have r3 := XR.free 3
  have r4 := XR.free 4
  have u0 := XR.cell 0
  have u1 := XR.cell 1
  have u2 := XR.cell 2
  have u3 := XR.cell 3
  have u4 := XR.cell 4
  have XD : Has w6.drew w1.heap.size 58 #[.string ks, .string ds, .bool false, .int .i64 0, .int .i64 0] ∧ RT w6.drew (w.heap.size + 1) l3 er3 := ⟨XE, XT⟩
  clear XR BXX
  rename_i K hK
  cases o1
  · refine wp_held (fun w' : World => Has w' w1.heap.size 58 #[.string ks, .string ds, .bool false, .int .i64 0, .int .i64 0] ∧ RT w' (w.heap.size + 1) l3 er3) K hmx ?_ (fun _ _ h => h)
    refine wpAnyH_take (i := 0) (v := .agg #[.string ks, .string ds, .bool false, .int .i64 0, .int .i64 0]) rfl (by kernel_rfl) (by kernel_rfl) (by kernel_rfl) (fun _ _ _ h => h) (Or.inl ⟨by rfl, ?_⟩) XD ?_
    · intro w6 s1
      have d0 := s1.1.cell 0
      have d1 := s1.1.cell 1
      have d2 := s1.1.cell 2
      have d3 := s1.1.cell 3
      have d4 := s1.1.cell 4
      go_simp
    simp only [Act.put, List.setIfInBounds_toArray, List.set_cons_zero, List.set_cons_succ, List.getElem_toArray, List.getElem_cons_zero]
    refine wpAnyH_take (i := 1) (v := .pointer (some ⟨w.heap.size + 1, 0, none⟩)) rfl (by kernel_rfl) (by kernel_rfl) (by kernel_rfl) (fun _ _ _ h => h) (Or.inl ⟨by rfl, ?_⟩) XD ?_
    · intro w6 s1
      go_simp
    simp only [Act.put, List.setIfInBounds_toArray, List.set_cons_zero, List.set_cons_succ, List.getElem_toArray, List.getElem_cons_zero, List.getElem_cons_succ]
    refine wpAnyH_take (i := 2) (v := .pointer (some ⟨w.heap.size + 1, 0, none⟩)) rfl (by kernel_rfl) (by kernel_rfl) (by kernel_rfl) (fun _ _ _ h => h) (Or.inl ⟨by rfl, ?_⟩) XD ?_
    · intro w6 s1
      go_simp
    simp only [Act.put, List.setIfInBounds_toArray, List.set_cons_zero, List.set_cons_succ, List.getElem_toArray, List.getElem_cons_zero, List.getElem_cons_succ]
    refine wpAnyH_take (i := 3) (v := .pointer (some ⟨w.heap.size + 1, 1, none⟩)) rfl (by kernel_rfl) (by kernel_rfl) (by kernel_rfl) (fun _ _ _ h => h) (Or.inl ⟨by rfl, ?_⟩) XD ?_
    · intro w6 s1
      go_simp
    simp only [Act.put, List.setIfInBounds_toArray, List.set_cons_zero, List.set_cons_succ, List.getElem_toArray, List.getElem_cons_zero, List.getElem_cons_succ]
    refine wpAnyH_take (i := 4) (v := .int .i64 er3) rfl (by kernel_rfl) (by kernel_rfl) (by kernel_rfl) (fun _ _ _ h => h) (Or.inl ⟨by rfl, ?_⟩) XD ?_
    · intro w6 s1
      have d0 := Has.cell1 s1.2
      go_simp
    simp only [Act.put, List.setIfInBounds_toArray, List.set_cons_zero, List.set_cons_succ, List.getElem_toArray, List.getElem_cons_zero, List.getElem_cons_succ]
    refine wpAnyH_take (i := 5) (v := .bool false) rfl (by kernel_rfl) (by kernel_rfl) (by kernel_rfl) (fun _ _ _ h => h) (Or.inl ⟨by rfl, ?_⟩) XD ?_
    · intro w6 s1
      go_simp
    simp only [Act.put, List.setIfInBounds_toArray, List.set_cons_zero, List.set_cons_succ, List.getElem_toArray, List.getElem_cons_zero, List.getElem_cons_succ]
    refine wpAnyH_take (i := 6) (v := .bool false) rfl (by kernel_rfl) (by kernel_rfl) (by kernel_rfl) (fun _ _ _ h => h) (Or.inl ⟨by rfl, ?_⟩) XD ?_
    · intro w6 s1
      go_simp
    simp only [Act.put, List.setIfInBounds_toArray, List.set_cons_zero, List.set_cons_succ, List.getElem_toArray, List.getElem_cons_zero, List.getElem_cons_succ]
    refine wpAnyH_take (i := 7) (v := undef) rfl (by kernel_rfl) (by kernel_rfl) (by kernel_rfl) (fun _ _ _ h => h) (Or.inr ⟨by rfl, rfl⟩) XD ?_
    simp only [Act.put, List.setIfInBounds_toArray, List.set_cons_zero, List.set_cons_succ, List.getElem_toArray, List.getElem_cons_zero, List.getElem_cons_succ]
    refine wpAnyH_take (i := 8) (v := undef) rfl (by kernel_rfl) (by kernel_rfl) (by kernel_rfl) (fun _ _ _ h => h) (Or.inr ⟨by rfl, rfl⟩) XD ?_
    simp only [Act.put, List.setIfInBounds_toArray, List.set_cons_zero, List.set_cons_succ, List.getElem_toArray, List.getElem_cons_zero, List.getElem_cons_succ]
    refine wpAnyH_take (i := 9) (v := .bool false) rfl (by kernel_rfl) (by kernel_rfl) (by kernel_rfl) (fun _ _ _ h => h) (Or.inl ⟨by rfl, ?_⟩) XD ?_
    · intro w6 s1
      go_simp
    simp only [Act.put, List.setIfInBounds_toArray, List.set_cons_zero, List.set_cons_succ, List.getElem_toArray, List.getElem_cons_zero, List.getElem_cons_succ]
    refine wpAnyH_ready (rs := [10]) (by kernel_rfl) (by simp) ?_
    refine AllReadyH.cons rfl (fun K5 hK5 => ?_) AllReadyH.nil
    go_simp
    have XS : Has (stE5 w6.drew w.heap.size (.string ks) (.string ds) (.bool false) (.int .i64 0) (.int .i64 0)) w1.heap.size 58 #[.string ks, .string ds, .bool false, .int .i64 0, .int .i64 0] ∧ RT (stE5 w6.drew w.heap.size (.string ks) (.string ds) (.bool false) (.int .i64 0) (.int .i64 0)) (w.heap.size + 1) l3 er3 := ⟨XD.1.setE_away (show w1.heap.size ≠ w.heap.size by omega) _ _ _ _ _, Has.setE_away XD.2 (show w.heap.size + 1 ≠ w.heap.size by omega) _ _ _ _ _⟩
    refine hK5.out _ _ XS (fun _ => ?_)
    clear hK5 K5
    refine wpAnyH_ready (rs := [11]) (by kernel_rfl) (by simp) ?_
    refine AllReadyH.cons rfl (fun K5 hK5 => ?_) AllReadyH.nil
    go_simp
    refine hK5.out _ _ XS (fun _ => ?_)
    clear hK5 K5
    refine wpAnyH_done (by kernel_rfl) ?_ _
    refine hK _ _ ?_
    go_wp2
    have k1 := RX.out.setE (.string ks) (.string ds) (.bool false) (.int .i64 0) (.int .i64 0)
    have q0 := k1.cell 0
    have q1 := k1.cell 1
    have q2 := k1.cell 2
    have q3 := k1.cell 3
    have q4 := k1.cell 4
    unfold stE5 at q0 q1 q2 q3 q4
    refine ⟨rfl, .tuple #[.agg #[.string ks, .string ds, .bool false, .int .i64 0, .int .i64 0], .bool false], ?_, rfl, (below_setE BX.out (Nat.le_refl _) (.string ks) (.string ds) (.bool false) (.int .i64 0) (.int .i64 0)).drew⟩
    simp at q0 q1 q2 q3 q4
    simp [results, Tryd.f38, go_sem, q0, q1, q2, q3, q4]

  · refine wp_held (fun w' : World => Has w' w1.heap.size 58 #[.string ks, .string ds, .bool false, .int .i64 0, .int .i64 0] ∧ RT w' (w.heap.size + 1) l3 er3) K hmx ?_ (fun _ _ h => h)
    refine wpAnyH_take (i := 0) (v := .agg #[.string ks, .string ds, .bool false, .int .i64 0, .int .i64 0]) rfl (by kernel_rfl) (by kernel_rfl) (by kernel_rfl) (fun _ _ _ h => h) (Or.inl ⟨by rfl, ?_⟩) XD ?_
    · intro w6 s1
      have d0 := s1.1.cell 0
      have d1 := s1.1.cell 1
      have d2 := s1.1.cell 2
      have d3 := s1.1.cell 3
      have d4 := s1.1.cell 4
      go_simp
    simp only [Act.put, List.setIfInBounds_toArray, List.set_cons_zero, List.set_cons_succ, List.getElem_toArray, List.getElem_cons_zero]
    refine wpAnyH_take (i := 1) (v := .pointer (some ⟨w.heap.size + 1, 0, none⟩)) rfl (by kernel_rfl) (by kernel_rfl) (by kernel_rfl) (fun _ _ _ h => h) (Or.inl ⟨by rfl, ?_⟩) XD ?_
    · intro w6 s1
      go_simp
    simp only [Act.put, List.setIfInBounds_toArray, List.set_cons_zero, List.set_cons_succ, List.getElem_toArray, List.getElem_cons_zero, List.getElem_cons_succ]
    refine wpAnyH_take (i := 2) (v := .pointer (some ⟨w.heap.size + 1, 0, none⟩)) rfl (by kernel_rfl) (by kernel_rfl) (by kernel_rfl) (fun _ _ _ h => h) (Or.inl ⟨by rfl, ?_⟩) XD ?_
    · intro w6 s1
      go_simp
    simp only [Act.put, List.setIfInBounds_toArray, List.set_cons_zero, List.set_cons_succ, List.getElem_toArray, List.getElem_cons_zero, List.getElem_cons_succ]
    refine wpAnyH_take (i := 3) (v := .pointer (some ⟨w.heap.size + 1, 1, none⟩)) rfl (by kernel_rfl) (by kernel_rfl) (by kernel_rfl) (fun _ _ _ h => h) (Or.inl ⟨by rfl, ?_⟩) XD ?_
    · intro w6 s1
      go_simp
    simp only [Act.put, List.setIfInBounds_toArray, List.set_cons_zero, List.set_cons_succ, List.getElem_toArray, List.getElem_cons_zero, List.getElem_cons_succ]
    refine wpAnyH_take (i := 4) (v := .int .i64 er3) rfl (by kernel_rfl) (by kernel_rfl) (by kernel_rfl) (fun _ _ _ h => h) (Or.inl ⟨by rfl, ?_⟩) XD ?_
    · intro w6 s1
      have d0 := Has.cell1 s1.2
      go_simp
    simp only [Act.put, List.setIfInBounds_toArray, List.set_cons_zero, List.set_cons_succ, List.getElem_toArray, List.getElem_cons_zero, List.getElem_cons_succ]
    refine wpAnyH_take (i := 5) (v := .bool true) rfl (by kernel_rfl) (by kernel_rfl) (by kernel_rfl) (fun _ _ _ h => h) (Or.inl ⟨by rfl, ?_⟩) XD ?_
    · intro w6 s1
      go_simp
    simp only [Act.put, List.setIfInBounds_toArray, List.set_cons_zero, List.set_cons_succ, List.getElem_toArray, List.getElem_cons_zero, List.getElem_cons_succ]
    refine wpAnyH_take (i := 6) (v := .bool true) rfl (by kernel_rfl) (by kernel_rfl) (by kernel_rfl) (fun _ _ _ h => h) (Or.inl ⟨by rfl, ?_⟩) XD ?_
    · intro w6 s1
      go_simp
    simp only [Act.put, List.setIfInBounds_toArray, List.set_cons_zero, List.set_cons_succ, List.getElem_toArray, List.getElem_cons_zero, List.getElem_cons_succ]
    refine wpAnyH_take (i := 7) (v := .int .u64 (m : Int)) rfl (by kernel_rfl) (by kernel_rfl) (by kernel_rfl) (fun _ _ _ h => h) (Or.inl ⟨by rfl, ?_⟩) XD ?_
    · intro w6 s1
      go_simp
    simp only [Act.put, List.setIfInBounds_toArray, List.set_cons_zero, List.set_cons_succ, List.getElem_toArray, List.getElem_cons_zero, List.getElem_cons_succ]
    refine wpAnyH_take (i := 8) (v := .bool o2) rfl (by kernel_rfl) (by kernel_rfl) (by kernel_rfl) (fun _ _ _ h => h) (Or.inl ⟨by rfl, ?_⟩) XD ?_
    · intro w6 s1
      go_simp
    simp only [Act.put, List.setIfInBounds_toArray, List.set_cons_zero, List.set_cons_succ, List.getElem_toArray, List.getElem_cons_zero, List.getElem_cons_succ]
    refine wpAnyH_take (i := 9) (v := .bool o2) rfl (by kernel_rfl) (by kernel_rfl) (by kernel_rfl) (fun _ _ _ h => h) (Or.inl ⟨by rfl, ?_⟩) XD ?_
    · intro w6 s1
      go_simp
    simp only [Act.put, List.setIfInBounds_toArray, List.set_cons_zero, List.set_cons_succ, List.getElem_toArray, List.getElem_cons_zero, List.getElem_cons_succ]
    refine wpAnyH_ready (rs := [10]) (by kernel_rfl) (by simp) ?_
    refine AllReadyH.cons rfl (fun K5 hK5 => ?_) AllReadyH.nil
    go_simp
    have XS : Has (stE5 w6.drew w.heap.size (.string ks) (.string ds) (.bool false) (.int .i64 0) (.int .i64 0)) w1.heap.size 58 #[.string ks, .string ds, .bool false, .int .i64 0, .int .i64 0] ∧ RT (stE5 w6.drew w.heap.size (.string ks) (.string ds) (.bool false) (.int .i64 0) (.int .i64 0)) (w.heap.size + 1) l3 er3 := ⟨XD.1.setE_away (show w1.heap.size ≠ w.heap.size by omega) _ _ _ _ _, Has.setE_away XD.2 (show w.heap.size + 1 ≠ w.heap.size by omega) _ _ _ _ _⟩
    refine hK5.out _ _ XS (fun _ => ?_)
    clear hK5 K5
    refine wpAnyH_ready (rs := [11]) (by kernel_rfl) (by simp) ?_
    refine AllReadyH.cons rfl (fun K5 hK5 => ?_) AllReadyH.nil
    go_simp
    refine hK5.out _ _ XS (fun _ => ?_)
    clear hK5 K5
    refine wpAnyH_done (by kernel_rfl) ?_ _
    refine hK _ _ ?_
    go_wp2
    have k1 := RX.out.setE (.string ks) (.string ds) (.bool false) (.int .i64 0) (.int .i64 0)
    have q0 := k1.cell 0
    have q1 := k1.cell 1
    have q2 := k1.cell 2
    have q3 := k1.cell 3
    have q4 := k1.cell 4
    unfold stE5 at q0 q1 q2 q3 q4
    refine ⟨rfl, .tuple #[.agg #[.string ks, .string ds, .bool false, .int .i64 0, .int .i64 0], .bool o2], ?_, rfl, (below_setE BX.out (Nat.le_refl _) (.string ks) (.string ds) (.bool false) (.int .i64 0) (.int .i64 0)).drew⟩
    simp at q0 q1 q2 q3 q4
    simp [results, Tryd.f38, go_sem, q0, q1, q2, q3, q4]


theorem r8one_any (leaf : Bool) (l : List UInt8) (w : World) (hl : l.length ≤ 1000000) : Calls Tryd.prog 38 #[.bool leaf, .string ⟨l.toArray⟩] w (ROneEnd (oneE leaf l) w) := by
  cases leaf
  · exact r8one_false l w hl
  · by_cases hm : (stN (stT l 0).2.1 (stT l 0).2.2 1).1 = 1
    · exact r8one_far l w hl hm
    · exact r8one_in l w hl hm

end Go.Proofs.YtnponjdnjkegmaaDoor
end
