import Derived.Test.YtpikcodnonodlaaDoorJ04
import Derived.Test.YtpikcodnonodlaaDoorJ08
/- Of a claim's texts, joined: Mtl. No statement but in the last. -/
namespace Go.Proofs.YtpikcodnonodlaaDoor
open Go.RowKit
set_option linter.unusedVariables false

theorem tinfo10 : (Tryd.prog.info? 70).map (fun i => (i.zero, i.size)) = some (some (.agg #[.string ⟨#[]⟩, .int .i64 0]), 2) := by kernel_rfl
theorem zero_t10 (w : World) : (zeroValue 70).run Tryd.prog w = .ok (.agg #[.string ⟨#[]⟩, .int .i64 0]) w := by
  obtain ⟨i, hi, h⟩ := Option.map_eq_some_iff.1 tinfo10
  simp only [Prod.mk.injEq] at h
  simp [zeroValue, typeInfo, hi, h.1]
theorem rminfo : (Tryd.prog.info? 32).map (fun i => (i.zero, i.size)) = some (some (.agg #[.int .i64 0, .int .u64 0, .int .i64 0, .int .i64 0, .int .i64 0]), 5) := by kernel_rfl
theorem zero_rmeta (w : World) : (zeroValue 32).run Tryd.prog w = .ok (.agg #[.int .i64 0, .int .u64 0, .int .i64 0, .int .i64 0, .int .i64 0]) w := by
  obtain ⟨i, hi, h⟩ := Option.map_eq_some_iff.1 rminfo
  simp only [Prod.mk.injEq] at h
  simp [zeroValue, typeInfo, hi, h.1]
theorem RT.away10 {w : World} {Q : Nat} {l : List UInt8} {er : Int} (h : RT w Q l er) {p : Addr} (hp : Q ≠ p.block) (u : Value) : RT (w.setCell p u) Q l er := Has.away h hp u
theorem RT.below10 {w w' : World} {Q : Nat} {l : List UInt8} {er : Int} (h : RT w Q l er) (hb : Below w.heap.size w w') : RT w' Q l er := Has.below h hb (Has.lt h)
theorem not_nineteen {b : List UInt8} {k : UInt8} {c : List UInt8} (h : unpN b = (k, [c], 0)) (hl : c.length ≠ 19) : ¬ ansM b (readM c) := by
  rintro ⟨_, h2⟩
  have h3 := unpN_pageM (readM c)
  rw [h2, h] at h3
  have h4 := (Prod.mk.inj (Prod.mk.inj h3).2).1
  refine hl ?_
  rw [List.singleton_inj.1 h4, cellM_len]
set_option maxRecDepth 100000 in
set_option maxHeartbeats 8000000 in
theorem r10Get_er (b : List UInt8) (w : World) (hbl : b.length ≤ 1000000) (he : (unpN b).2.2 ≠ 0) :
    Calls Tryd.prog 17 #[.string ⟨b.toArray⟩] w (GetM10 (mt0, (unpN b).2.2) w) := by
  have hz := zero_rmeta
  obtain ⟨W, hW, hb, hh, hs⟩ := mbox0 w 32
  have HB := Lib.hid hb
  have HH := Lib.hid hh
  have HU : Hid (Calls Tryd.prog 31 #[.string ⟨b.toArray⟩] W (RUnpEnd (unpN b) W)) := Lib.hid (r7Unpack_any ⟨b.toArray⟩ W (by rw [size_list]; exact hbl))
  obtain ⟨k, ls, er, hu⟩ : ∃ k ls er, unpN b = (k, ls, er) := ⟨_, _, _, rfl⟩
  rw [hu] at HU he ⊢
  simp only at he ⊢
  have he2 : (er != 0) = true := by simpa using he
  obtain ⟨bs, hbs⟩ : ∃ bs : ByteArray, (⟨b.toArray⟩ : ByteArray) = bs := ⟨_, rfl⟩
  rw [hbs] at HU ⊢
  clear hb hh hu he hs hbs
  go_enter Tryd.func17, Tryd.ntmps17
  go_wp2_with (go_at_call 31; (try rw [hW]); (with_reducible refine HU.out.mono ?_); rintro r1 w1 ⟨A1, n1, c1, rfl, k1, b1⟩; have y1 := HH.out.below b1 HH.out.lt; have f10 := y1.free 0; have f11 := y1.free 1; have f12 := y1.free 2; have f13 := y1.free 3; have f14 := y1.free 4; have c10 := y1.cell 0; have c11 := y1.cell 1; have c12 := y1.cell 2; have c13 := y1.cell 3; have c14 := y1.cell 4; have X1 := Lib.hid y1; have B1 := Lib.hid (below_step HB.out b1); clear k1 b1 y1)
  have XE := X1.out.setM (.int .i64 0) (.int .u64 0) (.int .i64 0) (.int .i64 0) (.int .i64 0)
  have q0 := XE.cell 0
  have q1 := XE.cell 1
  have q2 := XE.cell 2
  have q3 := XE.cell 3
  have q4 := XE.cell 4
  unfold stM5 at q0 q1 q2 q3 q4
  refine ⟨rfl, .tuple #[.agg #[.int .i64 0, .int .u64 0, .int .i64 0, .int .i64 0, .int .i64 0], .int .i64 er], ?_, rfl, below_setM B1.out (Nat.le_refl _) (.int .i64 0) (.int .u64 0) (.int .i64 0) (.int .i64 0) (.int .i64 0)⟩
  simp at q0 q1 q2 q3 q4
  simp [results, Tryd.f17, go_sem, q0, q1, q2, q3, q4]
set_option maxRecDepth 100000 in
set_option maxHeartbeats 8000000 in
theorem r10Get_len (b : List UInt8) (w : World) (hbl : b.length ≤ 1000000) (he : (unpN b).2.2 = 0) (hl : (unpN b).2.1.length ≠ 1) :
    Calls Tryd.prog 17 #[.string ⟨b.toArray⟩] w (GetM10 (mt0, 11) w) := by
  have hz := zero_rmeta
  obtain ⟨W, hW, hb, hh, hs⟩ := mbox0 w 32
  have HB := Lib.hid hb
  have HH := Lib.hid hh
  have HU : Hid (Calls Tryd.prog 31 #[.string ⟨b.toArray⟩] W (RUnpEnd (unpN b) W)) := Lib.hid (r7Unpack_any ⟨b.toArray⟩ W (by rw [size_list]; exact hbl))
  obtain ⟨k, ls, er, hu⟩ : ∃ k ls er, unpN b = (k, ls, er) := ⟨_, _, _, rfl⟩
  rw [hu] at HU he hl
  simp only at he hl
  subst he
  have HLL : Hid (∀ n : Nat, n = ls.length → ((n : Int) != 1) = true) := Lib.hid (fun n hn => by simp; omega)
  obtain ⟨bs, hbs⟩ : ∃ bs : ByteArray, (⟨b.toArray⟩ : ByteArray) = bs := ⟨_, rfl⟩
  rw [hbs] at HU ⊢
  clear hb hh hu hs hl hbs
  go_enter Tryd.func17, Tryd.ntmps17
  go_wp2_with (go_at_call 31; (try rw [hW]); (with_reducible refine HU.out.mono ?_); rintro r1 w1 ⟨A1, n1, c1, rfl, k1, b1⟩; have hnn := HLL.out n1 k1.len; have y1 := HH.out.below b1 HH.out.lt; have f10 := y1.free 0; have f11 := y1.free 1; have f12 := y1.free 2; have f13 := y1.free 3; have f14 := y1.free 4; have c10 := y1.cell 0; have c11 := y1.cell 1; have c12 := y1.cell 2; have c13 := y1.cell 3; have c14 := y1.cell 4; have X1 := Lib.hid y1; have B1 := Lib.hid (below_step HB.out b1); clear k1 b1 y1)
  have XE := X1.out.setM (.int .i64 0) (.int .u64 0) (.int .i64 0) (.int .i64 0) (.int .i64 0)
  have q0 := XE.cell 0
  have q1 := XE.cell 1
  have q2 := XE.cell 2
  have q3 := XE.cell 3
  have q4 := XE.cell 4
  unfold stM5 at q0 q1 q2 q3 q4
  refine ⟨rfl, .tuple #[.agg #[.int .i64 0, .int .u64 0, .int .i64 0, .int .i64 0, .int .i64 0], .int .i64 11], ?_, rfl, below_setM B1.out (Nat.le_refl _) (.int .i64 0) (.int .u64 0) (.int .i64 0) (.int .i64 0) (.int .i64 0)⟩
  simp at q0 q1 q2 q3 q4
  simp [results, Tryd.f17, go_sem, q0, q1, q2, q3, q4]
set_option maxRecDepth 100000 in
set_option maxHeartbeats 8000000 in
theorem r10Get_odd (b : List UInt8) (k : UInt8) (cb : List UInt8) (w : World) (hbl : b.length ≤ 1000000) (he : unpN b = (k, [cb], 0)) (hl : cb.length ≠ 19) :
    Calls Tryd.prog 17 #[.string ⟨b.toArray⟩] w (GetM10 (mt0, 11) w) := by
  have hz := zero_rmeta
  obtain ⟨W, hW, hb, hh, hs⟩ := mbox0 w 32
  have HB := Lib.hid hb
  have HH := Lib.hid hh
  have HU : Hid (Calls Tryd.prog 31 #[.string ⟨b.toArray⟩] W (RUnpEnd (unpN b) W)) := Lib.hid (r7Unpack_any ⟨b.toArray⟩ W (by rw [size_list]; exact hbl))
  rw [he] at HU
  obtain ⟨cs, hcs⟩ : ∃ cs : ByteArray, (⟨cb.toArray⟩ : ByteArray) = cs := ⟨_, rfl⟩
  have hcz : cs.size = cb.length := by rw [← hcs, size_list]
  have HCS := Lib.hid hcs
  have hcl : cb.length ≤ 128 := (unpN_ok10 (b := b) (by rw [he])).2.2.2.1 cb (by rw [he]; simp)
  have hz19 : ((cs.size : Int) != 19) = true := by simp; omega
  have hcz2 : cs.size ≤ 128 := by omega
  obtain ⟨bs, hbs⟩ : ∃ bs : ByteArray, (⟨b.toArray⟩ : ByteArray) = bs := ⟨_, rfl⟩
  rw [hbs] at HU ⊢
  clear hb hh hs he hl hbs hcs hcz hcl
  go_enter Tryd.func17, Tryd.ntmps17
  go_wp2_with (go_at_call 31; (try rw [hW]); (with_reducible refine HU.out.mono ?_); rintro r1 w1 ⟨A1, n1, c1, rfl, k1, b1⟩; obtain rfl : n1 = 1 := k1.len; obtain ⟨gg, goff, rfl, hrd⟩ := k1.at (k := 0) (by simp); have hrd2 : w1.cell? ⟨gg, goff, none⟩ = some (.string cs) := by { rw [← HCS.out]; exact hrd }; have y1 := HH.out.below b1 HH.out.lt; have f10 := y1.free 0; have f11 := y1.free 1; have f12 := y1.free 2; have f13 := y1.free 3; have f14 := y1.free 4; have c10 := y1.cell 0; have c11 := y1.cell 1; have c12 := y1.cell 2; have c13 := y1.cell 3; have c14 := y1.cell 4; have X1 := Lib.hid y1; have B1 := Lib.hid (below_step HB.out b1); clear y1; clear k1 b1 hrd)
  have XE := X1.out.setM (.int .i64 0) (.int .u64 0) (.int .i64 0) (.int .i64 0) (.int .i64 0)
  have q0 := XE.cell 0
  have q1 := XE.cell 1
  have q2 := XE.cell 2
  have q3 := XE.cell 3
  have q4 := XE.cell 4
  unfold stM5 at q0 q1 q2 q3 q4
  refine ⟨rfl, .tuple #[.agg #[.int .i64 0, .int .u64 0, .int .i64 0, .int .i64 0, .int .i64 0], .int .i64 11], ?_, rfl, below_setM B1.out (Nat.le_refl _) (.int .i64 0) (.int .u64 0) (.int .i64 0) (.int .i64 0) (.int .i64 0)⟩
  simp at q0 q1 q2 q3 q4
  simp [results, Tryd.f17, go_sem, q0, q1, q2, q3, q4]
set_option maxRecDepth 100000 in
set_option maxHeartbeats 8000000 in
theorem r10Get_no (b : List UInt8) (k : UInt8) (cb : List UInt8) (w : World) (hbl : b.length ≤ 1000000) (he : unpN b = (k, [cb], 0)) (hl : cb.length = 19) (hc : ¬ checkM (readM cb)) :
    Calls Tryd.prog 17 #[.string ⟨b.toArray⟩] w (GetM10 (mt0, 11) w) := by
  have hzt := zero_t10
  have hz := zero_rmeta
  obtain ⟨W, hW, hb, hh, hs⟩ := mbox0 w 32
  have HB := Lib.hid hb
  have HH := Lib.hid hh
  have HU : Hid (Calls Tryd.prog 31 #[.string ⟨b.toArray⟩] W (RUnpEnd (unpN b) W)) := Lib.hid (r7Unpack_any ⟨b.toArray⟩ W (by rw [size_list]; exact hbl))
  rw [he] at HU
  obtain ⟨cs, hcs⟩ : ∃ cs : ByteArray, (⟨cb.toArray⟩ : ByteArray) = cs := ⟨_, rfl⟩
  have hcz : cs.size = cb.length := by rw [← hcs, size_list]
  have hz19 : ((cs.size : Int) != 19) = false := by simp; omega
  have hz20 : cs.size = 19 := by omega
  have HCS := Lib.hid hcs
  have HP := Lib.hid (fun w1 => r10Put_no (readM cb) w1 hc)
  unfold RPackEnd at HP
  clear hc
  have hv2 : mtV (readM cb) = .agg #[.int .i64 ((rdL cb).1 : Int), .int .u64 ((rdT cb).1 : Int), .int .i64 ((rdR cb).1 : Int), .int .i64 ((rdS cb).1 : Int), .int .i64 ((rdH cb).1 : Int)] := rfl
  rw [hv2] at HP
  clear hv2
  have hx1 : (rdL cb).1 ≤ 255 := stN_one _ _
  have hx3 : (rdR cb).1 < 65536 := stN_small _ _
  have hx4 : (rdS cb).1 < 65536 := stN_small _ _
  have hx5 : (rdH cb).1 < 65536 := stN_small _ _
  have z0 : (stN cb 0 4).2.1.length ≤ 19 := Nat.le_trans (stN_len cb 0 4) (Nat.le_of_eq hl)
  have z1 : (rdL cb).2.1.length ≤ 19 := Nat.le_trans (stN_len _ _ _) z0
  have z2 : (rdT cb).2.1.length ≤ 19 := Nat.le_trans (stN_len _ _ _) z1
  have z3 : (rdR cb).2.1.length ≤ 19 := Nat.le_trans (stN_len _ _ _) z2
  have z4 : (rdS cb).2.1.length ≤ 19 := Nat.le_trans (stN_len _ _ _) z3
  have N0 := Lib.hid (fun Q w1 (h : RT w1 Q cb 0) => rtNum_any Q cb 0 4 w1 h (by omega))
  have N1 : Hid (∀ Q w1, RT w1 Q (stN cb 0 4).2.1 (stN cb 0 4).2.2 → Calls Tryd.prog 32 #[.pointer (some ⟨Q, 0, none⟩), .int .i64 1] w1 (RNumEnd Q w1 (rdL cb).1 (rdL cb).2.1 (rdL cb).2.2)) := Lib.hid (fun Q w1 h => rtNum_any Q _ _ 1 w1 h (by omega))
  have N2 : Hid (∀ Q w1, RT w1 Q (rdL cb).2.1 (rdL cb).2.2 → Calls Tryd.prog 32 #[.pointer (some ⟨Q, 0, none⟩), .int .i64 8] w1 (RNumEnd Q w1 (rdT cb).1 (rdT cb).2.1 (rdT cb).2.2)) := Lib.hid (fun Q w1 h => rtNum_any Q _ _ 8 w1 h (by omega))
  have N3 : Hid (∀ Q w1, RT w1 Q (rdT cb).2.1 (rdT cb).2.2 → Calls Tryd.prog 32 #[.pointer (some ⟨Q, 0, none⟩), .int .i64 2] w1 (RNumEnd Q w1 (rdR cb).1 (rdR cb).2.1 (rdR cb).2.2)) := Lib.hid (fun Q w1 h => rtNum_any Q _ _ 2 w1 h (by omega))
  have N4 : Hid (∀ Q w1, RT w1 Q (rdR cb).2.1 (rdR cb).2.2 → Calls Tryd.prog 32 #[.pointer (some ⟨Q, 0, none⟩), .int .i64 2] w1 (RNumEnd Q w1 (rdS cb).1 (rdS cb).2.1 (rdS cb).2.2)) := Lib.hid (fun Q w1 h => rtNum_any Q _ _ 2 w1 h (by omega))
  have N5 : Hid (∀ Q w1, RT w1 Q (rdS cb).2.1 (rdS cb).2.2 → Calls Tryd.prog 32 #[.pointer (some ⟨Q, 0, none⟩), .int .i64 2] w1 (RNumEnd Q w1 (rdH cb).1 (rdH cb).2.1 (rdH cb).2.2)) := Lib.hid (fun Q w1 h => rtNum_any Q _ _ 2 w1 h (by omega))
  clear z0 z1 z2 z3 z4
  generalize rdH cb = a5 at *
  generalize rdS cb = a4 at *
  generalize rdR cb = a3 at *
  generalize rdT cb = a2 at *
  generalize rdL cb = a1 at *
  generalize stN cb 0 4 = a0 at *
  obtain ⟨x0, l0, e0⟩ := a0
  obtain ⟨x1, l1, e1⟩ := a1
  obtain ⟨x2, l2, e2⟩ := a2
  obtain ⟨x3, l3, e3⟩ := a3
  obtain ⟨x4, l4, e4⟩ := a4
  obtain ⟨x5, l5, e5⟩ := a5
  simp only at N0 N1 N2 N3 N4 N5 hx1 hx3 hx4 hx5 HP ⊢
  unfold RNumEnd at N0 N1 N2 N3 N4 N5
  have hw1 : IntKind.i64.wrap (x1 : Int) = (x1 : Int) := IntWalk.i64_in _ (by omega)
  have hw3 : IntKind.i64.wrap (x3 : Int) = (x3 : Int) := IntWalk.i64_in _ (by omega)
  have hw4 : IntKind.i64.wrap (x4 : Int) = (x4 : Int) := IntWalk.i64_in _ (by omega)
  have hw5 : IntKind.i64.wrap (x5 : Int) = (x5 : Int) := IntWalk.i64_in _ (by omega)
  obtain ⟨bs, hbs⟩ : ∃ bs : ByteArray, (⟨b.toArray⟩ : ByteArray) = bs := ⟨_, rfl⟩
  rw [hbs] at HU ⊢
  clear hb hh hs he hl hbs hcs hcz hx1 hx3 hx4 hx5
  go_enter Tryd.func17, Tryd.ntmps17
  go_wp2_with (first
    | (go_at_call 31; (try rw [hW]); (with_reducible refine HU.out.mono ?_); rintro r1 w1 ⟨A1, n1, c1, rfl, k1, b1⟩; obtain rfl : n1 = 1 := k1.len; obtain ⟨gg, goff, rfl, hrd⟩ := k1.at (k := 0) (by simp); have hrd2 : w1.cell? ⟨gg, goff, none⟩ = some (.string cs) := by { rw [← HCS.out]; exact hrd }; have X1 := Lib.hid (HH.out.below b1 HH.out.lt); have B1 := Lib.hid (below_step HB.out b1); have hwl : w.heap.size < w1.heap.size := X1.out.lt; obtain ⟨w2, hw2⟩ : ∃ w2, w1.alloc (.cells #[.string cs, .int .i64 0] 70) = w2 := ⟨_, rfl⟩; have T2 := Lib.hid (show RT w2 w1.heap.size cb 0 by { unfold RT; rw [HCS.out]; exact hw2 ▸ Has.made w1 70 _ }); have b2 : Below w1.heap.size w1 w2 := hw2 ▸ (Below.refl _ w1).alloc (Nat.le_refl _) _; have X2 := Lib.hid (X1.out.below b2 X1.out.lt); have B2 := Lib.hid (below_step B1.out b2); clear b2; clear k1 b1 hrd)
    | (go_at_call 32; (try rw [hw2]); (with_reducible refine (N0.out _ _ T2.out).mono ?_); rintro r3 w3 ⟨rfl, t3, g3⟩; have B3 := Lib.hid (B2.out.trans (below_only g3 (by omega) B2.out.size)); have X3 := Lib.hid (X2.out.grown g3 (by intro e; injection e with e; omega)); obtain ⟨w4, hw4⟩ : ∃ w4, w3.alloc (.cells #[.int .i64 0, .int .u64 0, .int .i64 0, .int .i64 0, .int .i64 0] 32) = w4 := ⟨_, rfl⟩; have b4 : Below w3.heap.size w3 w4 := hw4 ▸ (Below.refl _ w3).alloc (Nat.le_refl _) _; have hQ : w1.heap.size < w3.heap.size := Has.lt t3; have y4 := hw4 ▸ Has.made w3 32 #[.int .i64 0, .int .u64 0, .int .i64 0, .int .i64 0, .int .i64 0]; have T4 := Lib.hid (RT.below10 t3 b4); have X4 := Lib.hid (X3.out.below b4 X3.out.lt); have B4 := Lib.hid (below_step B3.out b4); have Y4 := Lib.hid y4; have m40 := y4.cell 0; have m41 := y4.cell 1; have m42 := y4.cell 2; have m43 := y4.cell 3; have m44 := y4.cell 4; have HW4 := Lib.hid hw4; clear t3 g3 b4 y4 hw4)
    | (go_at_call 32; (try rw [HW4.out]); (with_reducible refine (N1.out _ _ T4.out).mono ?_); rintro r5 w5 ⟨rfl, t5, g5⟩; have y5 := Y4.out.grown g5 (by intro e; injection e with e; omega); have fx50 := y5.free 0; have fx51 := y5.free 1; have fx52 := y5.free 2; have fx53 := y5.free 3; have fx54 := y5.free 4; have cx50 := y5.cell 0; have cx51 := y5.cell 1; have cx52 := y5.cell 2; have cx53 := y5.cell 3; have cx54 := y5.cell 4; obtain ⟨w6, hw6⟩ : ∃ w6, w5.setCell ⟨w3.heap.size, 0, none⟩ (.int .i64 (x1 : Int)) = w6 := ⟨_, rfl⟩; have y6 : Has w6 w3.heap.size 32 #[.int .i64 (x1 : Int), .int .u64 0, .int .i64 0, .int .i64 0, .int .i64 0] := by { rw [← hw6]; simpa using y5.store 0 (.int .i64 (x1 : Int)) }; have T6 := Lib.hid (hw6 ▸ RT.away10 t5 (p := ⟨w3.heap.size, 0, none⟩) (show w1.heap.size ≠ w3.heap.size by omega) (.int .i64 (x1 : Int))); have xa := X4.out.grown g5 (by intro e; injection e with e; omega); have X6 := Lib.hid (hw6 ▸ xa.away (p := ⟨w3.heap.size, 0, none⟩) (show w.heap.size ≠ w3.heap.size by omega) (.int .i64 (x1 : Int))); have ba := B4.out.trans (below_only g5 (by omega) B4.out.size); have B6 := Lib.hid (hw6 ▸ ba.setCell (p := ⟨w3.heap.size, 0, none⟩) (show w.heap.size ≤ w3.heap.size by omega) (.int .i64 (x1 : Int))); have Y6 := Lib.hid y6; have m60 := y6.cell 0; have m61 := y6.cell 1; have m62 := y6.cell 2; have m63 := y6.cell 3; have m64 := y6.cell 4; clear t5 g5 y5 y6 xa ba)
    | (go_at_call 32; (try rw [hw6]); (with_reducible refine (N2.out _ _ T6.out).mono ?_); rintro r7 w7 ⟨rfl, t7, g7⟩; have y7 := Y6.out.grown g7 (by intro e; injection e with e; omega); have fx70 := y7.free 0; have fx71 := y7.free 1; have fx72 := y7.free 2; have fx73 := y7.free 3; have fx74 := y7.free 4; have cx70 := y7.cell 0; have cx71 := y7.cell 1; have cx72 := y7.cell 2; have cx73 := y7.cell 3; have cx74 := y7.cell 4; obtain ⟨w8, hw8⟩ : ∃ w8, w7.setCell ⟨w3.heap.size, 1, none⟩ (.int .u64 (x2 : Int)) = w8 := ⟨_, rfl⟩; have y8 : Has w8 w3.heap.size 32 #[.int .i64 (x1 : Int), .int .u64 (x2 : Int), .int .i64 0, .int .i64 0, .int .i64 0] := by { rw [← hw8]; simpa using y7.store 1 (.int .u64 (x2 : Int)) }; have T8 := Lib.hid (hw8 ▸ RT.away10 t7 (p := ⟨w3.heap.size, 1, none⟩) (show w1.heap.size ≠ w3.heap.size by omega) (.int .u64 (x2 : Int))); have xa := X6.out.grown g7 (by intro e; injection e with e; omega); have X8 := Lib.hid (hw8 ▸ xa.away (p := ⟨w3.heap.size, 1, none⟩) (show w.heap.size ≠ w3.heap.size by omega) (.int .u64 (x2 : Int))); have ba := B6.out.trans (below_only g7 (by omega) B6.out.size); have B8 := Lib.hid (hw8 ▸ ba.setCell (p := ⟨w3.heap.size, 1, none⟩) (show w.heap.size ≤ w3.heap.size by omega) (.int .u64 (x2 : Int))); have Y8 := Lib.hid y8; have m80 := y8.cell 0; have m81 := y8.cell 1; have m82 := y8.cell 2; have m83 := y8.cell 3; have m84 := y8.cell 4; clear t7 g7 y7 y8 xa ba)
    | (go_at_call 32; (try rw [hw12]); (with_reducible refine (N5.out _ _ T12.out).mono ?_); rintro r13 w13 ⟨rfl, t13, g13⟩; have y13 := Y12.out.grown g13 (by intro e; injection e with e; omega); have fx130 := y13.free 0; have fx131 := y13.free 1; have fx132 := y13.free 2; have fx133 := y13.free 3; have fx134 := y13.free 4; have cx130 := y13.cell 0; have cx131 := y13.cell 1; have cx132 := y13.cell 2; have cx133 := y13.cell 3; have cx134 := y13.cell 4; obtain ⟨w14, hw14⟩ : ∃ w14, w13.setCell ⟨w3.heap.size, 4, none⟩ (.int .i64 (x5 : Int)) = w14 := ⟨_, rfl⟩; have y14 : Has w14 w3.heap.size 32 #[.int .i64 (x1 : Int), .int .u64 (x2 : Int), .int .i64 (x3 : Int), .int .i64 (x4 : Int), .int .i64 (x5 : Int)] := by { rw [← hw14]; simpa using y13.store 4 (.int .i64 (x5 : Int)) }; have T14 := Lib.hid (hw14 ▸ RT.away10 t13 (p := ⟨w3.heap.size, 4, none⟩) (show w1.heap.size ≠ w3.heap.size by omega) (.int .i64 (x5 : Int))); have xa := X12.out.grown g13 (by intro e; injection e with e; omega); have X14 := Lib.hid (hw14 ▸ xa.away (p := ⟨w3.heap.size, 4, none⟩) (show w.heap.size ≠ w3.heap.size by omega) (.int .i64 (x5 : Int))); have ba := B12.out.trans (below_only g13 (by omega) B12.out.size); have B14 := Lib.hid (hw14 ▸ ba.setCell (p := ⟨w3.heap.size, 4, none⟩) (show w.heap.size ≤ w3.heap.size by omega) (.int .i64 (x5 : Int))); have Y14 := Lib.hid y14; have m140 := y14.cell 0; have m141 := y14.cell 1; have m142 := y14.cell 2; have m143 := y14.cell 3; have m144 := y14.cell 4; clear t13 g13 y13 y14 xa ba)
    | (go_at_call 32; (try rw [hw10]); (with_reducible refine (N4.out _ _ T10.out).mono ?_); rintro r11 w11 ⟨rfl, t11, g11⟩; have y11 := Y10.out.grown g11 (by intro e; injection e with e; omega); have fx110 := y11.free 0; have fx111 := y11.free 1; have fx112 := y11.free 2; have fx113 := y11.free 3; have fx114 := y11.free 4; have cx110 := y11.cell 0; have cx111 := y11.cell 1; have cx112 := y11.cell 2; have cx113 := y11.cell 3; have cx114 := y11.cell 4; obtain ⟨w12, hw12⟩ : ∃ w12, w11.setCell ⟨w3.heap.size, 3, none⟩ (.int .i64 (x4 : Int)) = w12 := ⟨_, rfl⟩; have y12 : Has w12 w3.heap.size 32 #[.int .i64 (x1 : Int), .int .u64 (x2 : Int), .int .i64 (x3 : Int), .int .i64 (x4 : Int), .int .i64 0] := by { rw [← hw12]; simpa using y11.store 3 (.int .i64 (x4 : Int)) }; have T12 := Lib.hid (hw12 ▸ RT.away10 t11 (p := ⟨w3.heap.size, 3, none⟩) (show w1.heap.size ≠ w3.heap.size by omega) (.int .i64 (x4 : Int))); have xa := X10.out.grown g11 (by intro e; injection e with e; omega); have X12 := Lib.hid (hw12 ▸ xa.away (p := ⟨w3.heap.size, 3, none⟩) (show w.heap.size ≠ w3.heap.size by omega) (.int .i64 (x4 : Int))); have ba := B10.out.trans (below_only g11 (by omega) B10.out.size); have B12 := Lib.hid (hw12 ▸ ba.setCell (p := ⟨w3.heap.size, 3, none⟩) (show w.heap.size ≤ w3.heap.size by omega) (.int .i64 (x4 : Int))); have Y12 := Lib.hid y12; have m120 := y12.cell 0; have m121 := y12.cell 1; have m122 := y12.cell 2; have m123 := y12.cell 3; have m124 := y12.cell 4; clear t11 g11 y11 y12 xa ba)
    | (go_at_call 32; (try rw [hw8]); (with_reducible refine (N3.out _ _ T8.out).mono ?_); rintro r9 w9 ⟨rfl, t9, g9⟩; have y9 := Y8.out.grown g9 (by intro e; injection e with e; omega); have fx90 := y9.free 0; have fx91 := y9.free 1; have fx92 := y9.free 2; have fx93 := y9.free 3; have fx94 := y9.free 4; have cx90 := y9.cell 0; have cx91 := y9.cell 1; have cx92 := y9.cell 2; have cx93 := y9.cell 3; have cx94 := y9.cell 4; obtain ⟨w10, hw10⟩ : ∃ w10, w9.setCell ⟨w3.heap.size, 2, none⟩ (.int .i64 (x3 : Int)) = w10 := ⟨_, rfl⟩; have y10 : Has w10 w3.heap.size 32 #[.int .i64 (x1 : Int), .int .u64 (x2 : Int), .int .i64 (x3 : Int), .int .i64 0, .int .i64 0] := by { rw [← hw10]; simpa using y9.store 2 (.int .i64 (x3 : Int)) }; have T10 := Lib.hid (hw10 ▸ RT.away10 t9 (p := ⟨w3.heap.size, 2, none⟩) (show w1.heap.size ≠ w3.heap.size by omega) (.int .i64 (x3 : Int))); have xa := X8.out.grown g9 (by intro e; injection e with e; omega); have X10 := Lib.hid (hw10 ▸ xa.away (p := ⟨w3.heap.size, 2, none⟩) (show w.heap.size ≠ w3.heap.size by omega) (.int .i64 (x3 : Int))); have ba := B8.out.trans (below_only g9 (by omega) B8.out.size); have B10 := Lib.hid (hw10 ▸ ba.setCell (p := ⟨w3.heap.size, 2, none⟩) (show w.heap.size ≤ w3.heap.size by omega) (.int .i64 (x3 : Int))); have Y10 := Lib.hid y10; have m100 := y10.cell 0; have m101 := y10.cell 1; have m102 := y10.cell 2; have m103 := y10.cell 3; have m104 := y10.cell 4; clear t9 g9 y9 y10 xa ba)
    | (go_at_call 10; (try rw [hw14]); (with_reducible refine (HP.out _).mono ?_); rintro r20 w20 ⟨rfl, b20⟩; have y20 := X14.out.below b20 X14.out.lt; have fx0 := y20.free 0; have fx1 := y20.free 1; have fx2 := y20.free 2; have fx3 := y20.free 3; have fx4 := y20.free 4; have cx0 := y20.cell 0; have cx1 := y20.cell 1; have cx2 := y20.cell 2; have cx3 := y20.cell 3; have cx4 := y20.cell 4; have u20 := Y14.out.below b20 Y14.out.lt; have n0 := u20.cell 0; have n1 := u20.cell 1; have n2 := u20.cell 2; have n3 := u20.cell 3; have n4 := u20.cell 4; have X20 := Lib.hid y20; have B20 := Lib.hid (below_step B14.out b20); clear b20 y20 u20))
  have XE := X20.out.setM (.int .i64 0) (.int .u64 0) (.int .i64 0) (.int .i64 0) (.int .i64 0)
  have q0 := XE.cell 0
  have q1 := XE.cell 1
  have q2 := XE.cell 2
  have q3 := XE.cell 3
  have q4 := XE.cell 4
  unfold stM5 at q0 q1 q2 q3 q4
  refine ⟨rfl, .tuple #[.agg #[.int .i64 0, .int .u64 0, .int .i64 0, .int .i64 0, .int .i64 0], .int .i64 11], ?_, rfl, below_setM B20.out (Nat.le_refl _) (.int .i64 0) (.int .u64 0) (.int .i64 0) (.int .i64 0) (.int .i64 0)⟩
  simp at q0 q1 q2 q3 q4
  simp [results, Tryd.f17, go_sem, q0, q1, q2, q3, q4]
set_option maxRecDepth 100000 in
set_option maxHeartbeats 8000000 in
theorem r10Get_not (b : List UInt8) (k : UInt8) (cb : List UInt8) (w : World) (hbl : b.length ≤ 1000000) (he : unpN b = (k, [cb], 0)) (hl : cb.length = 19) (hc : checkM (readM cb)) (hv : pageM (readM cb) ≠ b) :
    Calls Tryd.prog 17 #[.string ⟨b.toArray⟩] w (GetM10 (mt0, 11) w) := by
  have hzt := zero_t10
  have hz := zero_rmeta
  obtain ⟨W, hW, hb, hh, hs⟩ := mbox0 w 32
  have HB := Lib.hid hb
  have HH := Lib.hid hh
  have HU : Hid (Calls Tryd.prog 31 #[.string ⟨b.toArray⟩] W (RUnpEnd (unpN b) W)) := Lib.hid (r7Unpack_any ⟨b.toArray⟩ W (by rw [size_list]; exact hbl))
  rw [he] at HU
  obtain ⟨cs, hcs⟩ : ∃ cs : ByteArray, (⟨cb.toArray⟩ : ByteArray) = cs := ⟨_, rfl⟩
  have hcz : cs.size = cb.length := by rw [← hcs, size_list]
  have hz19 : ((cs.size : Int) != 19) = false := by simp; omega
  have hz20 : cs.size = 19 := by omega
  have HCS := Lib.hid hcs
  have HP := Lib.hid (fun w1 => r10Put_yes (readM cb) w1 hc (readM_txn cb))
  have hq1 : ¬ (⟨(pageM (readM cb)).toArray⟩ : ByteArray) = ⟨b.toArray⟩ := fun h => hv (str_eq.1 h)
  generalize pageM (readM cb) = pg at HP hq1
  obtain ⟨ps, hps⟩ : ∃ ps : ByteArray, (⟨pg.toArray⟩ : ByteArray) = ps := ⟨_, rfl⟩
  unfold RPackEnd at HP
  rw [hps] at HP hq1
  clear hc hv
  have hv2 : mtV (readM cb) = .agg #[.int .i64 ((rdL cb).1 : Int), .int .u64 ((rdT cb).1 : Int), .int .i64 ((rdR cb).1 : Int), .int .i64 ((rdS cb).1 : Int), .int .i64 ((rdH cb).1 : Int)] := rfl
  rw [hv2] at HP
  clear hv2
  have hx1 : (rdL cb).1 ≤ 255 := stN_one _ _
  have hx3 : (rdR cb).1 < 65536 := stN_small _ _
  have hx4 : (rdS cb).1 < 65536 := stN_small _ _
  have hx5 : (rdH cb).1 < 65536 := stN_small _ _
  have z0 : (stN cb 0 4).2.1.length ≤ 19 := Nat.le_trans (stN_len cb 0 4) (Nat.le_of_eq hl)
  have z1 : (rdL cb).2.1.length ≤ 19 := Nat.le_trans (stN_len _ _ _) z0
  have z2 : (rdT cb).2.1.length ≤ 19 := Nat.le_trans (stN_len _ _ _) z1
  have z3 : (rdR cb).2.1.length ≤ 19 := Nat.le_trans (stN_len _ _ _) z2
  have z4 : (rdS cb).2.1.length ≤ 19 := Nat.le_trans (stN_len _ _ _) z3
  have N0 := Lib.hid (fun Q w1 (h : RT w1 Q cb 0) => rtNum_any Q cb 0 4 w1 h (by omega))
  have N1 : Hid (∀ Q w1, RT w1 Q (stN cb 0 4).2.1 (stN cb 0 4).2.2 → Calls Tryd.prog 32 #[.pointer (some ⟨Q, 0, none⟩), .int .i64 1] w1 (RNumEnd Q w1 (rdL cb).1 (rdL cb).2.1 (rdL cb).2.2)) := Lib.hid (fun Q w1 h => rtNum_any Q _ _ 1 w1 h (by omega))
  have N2 : Hid (∀ Q w1, RT w1 Q (rdL cb).2.1 (rdL cb).2.2 → Calls Tryd.prog 32 #[.pointer (some ⟨Q, 0, none⟩), .int .i64 8] w1 (RNumEnd Q w1 (rdT cb).1 (rdT cb).2.1 (rdT cb).2.2)) := Lib.hid (fun Q w1 h => rtNum_any Q _ _ 8 w1 h (by omega))
  have N3 : Hid (∀ Q w1, RT w1 Q (rdT cb).2.1 (rdT cb).2.2 → Calls Tryd.prog 32 #[.pointer (some ⟨Q, 0, none⟩), .int .i64 2] w1 (RNumEnd Q w1 (rdR cb).1 (rdR cb).2.1 (rdR cb).2.2)) := Lib.hid (fun Q w1 h => rtNum_any Q _ _ 2 w1 h (by omega))
  have N4 : Hid (∀ Q w1, RT w1 Q (rdR cb).2.1 (rdR cb).2.2 → Calls Tryd.prog 32 #[.pointer (some ⟨Q, 0, none⟩), .int .i64 2] w1 (RNumEnd Q w1 (rdS cb).1 (rdS cb).2.1 (rdS cb).2.2)) := Lib.hid (fun Q w1 h => rtNum_any Q _ _ 2 w1 h (by omega))
  have N5 : Hid (∀ Q w1, RT w1 Q (rdS cb).2.1 (rdS cb).2.2 → Calls Tryd.prog 32 #[.pointer (some ⟨Q, 0, none⟩), .int .i64 2] w1 (RNumEnd Q w1 (rdH cb).1 (rdH cb).2.1 (rdH cb).2.2)) := Lib.hid (fun Q w1 h => rtNum_any Q _ _ 2 w1 h (by omega))
  clear z0 z1 z2 z3 z4
  generalize rdH cb = a5 at *
  generalize rdS cb = a4 at *
  generalize rdR cb = a3 at *
  generalize rdT cb = a2 at *
  generalize rdL cb = a1 at *
  generalize stN cb 0 4 = a0 at *
  obtain ⟨x0, l0, e0⟩ := a0
  obtain ⟨x1, l1, e1⟩ := a1
  obtain ⟨x2, l2, e2⟩ := a2
  obtain ⟨x3, l3, e3⟩ := a3
  obtain ⟨x4, l4, e4⟩ := a4
  obtain ⟨x5, l5, e5⟩ := a5
  simp only at N0 N1 N2 N3 N4 N5 hx1 hx3 hx4 hx5 HP ⊢
  unfold RNumEnd at N0 N1 N2 N3 N4 N5
  have hw1 : IntKind.i64.wrap (x1 : Int) = (x1 : Int) := IntWalk.i64_in _ (by omega)
  have hw3 : IntKind.i64.wrap (x3 : Int) = (x3 : Int) := IntWalk.i64_in _ (by omega)
  have hw4 : IntKind.i64.wrap (x4 : Int) = (x4 : Int) := IntWalk.i64_in _ (by omega)
  have hw5 : IntKind.i64.wrap (x5 : Int) = (x5 : Int) := IntWalk.i64_in _ (by omega)
  obtain ⟨bs, hbs⟩ : ∃ bs : ByteArray, (⟨b.toArray⟩ : ByteArray) = bs := ⟨_, rfl⟩
  rw [hbs] at HU hq1 ⊢
  have hq2 : (ps.toList == bs.toList) = false := beq_false_of_ne (fun h => hq1 (by apply ByteArray.ext; apply Array.ext'; rw [ByteArray.toList_eq, ByteArray.toList_eq] at h; exact h))
  clear hb hh hs he hl hbs hcs hcz hx1 hx3 hx4 hx5 hps
  go_enter Tryd.func17, Tryd.ntmps17
  go_wp2_with (first
    | (go_at_call 31; (try rw [hW]); (with_reducible refine HU.out.mono ?_); rintro r1 w1 ⟨A1, n1, c1, rfl, k1, b1⟩; obtain rfl : n1 = 1 := k1.len; obtain ⟨gg, goff, rfl, hrd⟩ := k1.at (k := 0) (by simp); have hrd2 : w1.cell? ⟨gg, goff, none⟩ = some (.string cs) := by { rw [← HCS.out]; exact hrd }; have X1 := Lib.hid (HH.out.below b1 HH.out.lt); have B1 := Lib.hid (below_step HB.out b1); have hwl : w.heap.size < w1.heap.size := X1.out.lt; obtain ⟨w2, hw2⟩ : ∃ w2, w1.alloc (.cells #[.string cs, .int .i64 0] 70) = w2 := ⟨_, rfl⟩; have T2 := Lib.hid (show RT w2 w1.heap.size cb 0 by { unfold RT; rw [HCS.out]; exact hw2 ▸ Has.made w1 70 _ }); have b2 : Below w1.heap.size w1 w2 := hw2 ▸ (Below.refl _ w1).alloc (Nat.le_refl _) _; have X2 := Lib.hid (X1.out.below b2 X1.out.lt); have B2 := Lib.hid (below_step B1.out b2); clear b2; clear k1 b1 hrd)
    | (go_at_call 32; (try rw [hw2]); (with_reducible refine (N0.out _ _ T2.out).mono ?_); rintro r3 w3 ⟨rfl, t3, g3⟩; have B3 := Lib.hid (B2.out.trans (below_only g3 (by omega) B2.out.size)); have X3 := Lib.hid (X2.out.grown g3 (by intro e; injection e with e; omega)); obtain ⟨w4, hw4⟩ : ∃ w4, w3.alloc (.cells #[.int .i64 0, .int .u64 0, .int .i64 0, .int .i64 0, .int .i64 0] 32) = w4 := ⟨_, rfl⟩; have b4 : Below w3.heap.size w3 w4 := hw4 ▸ (Below.refl _ w3).alloc (Nat.le_refl _) _; have hQ : w1.heap.size < w3.heap.size := Has.lt t3; have y4 := hw4 ▸ Has.made w3 32 #[.int .i64 0, .int .u64 0, .int .i64 0, .int .i64 0, .int .i64 0]; have T4 := Lib.hid (RT.below10 t3 b4); have X4 := Lib.hid (X3.out.below b4 X3.out.lt); have B4 := Lib.hid (below_step B3.out b4); have Y4 := Lib.hid y4; have m40 := y4.cell 0; have m41 := y4.cell 1; have m42 := y4.cell 2; have m43 := y4.cell 3; have m44 := y4.cell 4; have HW4 := Lib.hid hw4; clear t3 g3 b4 y4 hw4)
    | (go_at_call 32; (try rw [HW4.out]); (with_reducible refine (N1.out _ _ T4.out).mono ?_); rintro r5 w5 ⟨rfl, t5, g5⟩; have y5 := Y4.out.grown g5 (by intro e; injection e with e; omega); have fx50 := y5.free 0; have fx51 := y5.free 1; have fx52 := y5.free 2; have fx53 := y5.free 3; have fx54 := y5.free 4; have cx50 := y5.cell 0; have cx51 := y5.cell 1; have cx52 := y5.cell 2; have cx53 := y5.cell 3; have cx54 := y5.cell 4; obtain ⟨w6, hw6⟩ : ∃ w6, w5.setCell ⟨w3.heap.size, 0, none⟩ (.int .i64 (x1 : Int)) = w6 := ⟨_, rfl⟩; have y6 : Has w6 w3.heap.size 32 #[.int .i64 (x1 : Int), .int .u64 0, .int .i64 0, .int .i64 0, .int .i64 0] := by { rw [← hw6]; simpa using y5.store 0 (.int .i64 (x1 : Int)) }; have T6 := Lib.hid (hw6 ▸ RT.away10 t5 (p := ⟨w3.heap.size, 0, none⟩) (show w1.heap.size ≠ w3.heap.size by omega) (.int .i64 (x1 : Int))); have xa := X4.out.grown g5 (by intro e; injection e with e; omega); have X6 := Lib.hid (hw6 ▸ xa.away (p := ⟨w3.heap.size, 0, none⟩) (show w.heap.size ≠ w3.heap.size by omega) (.int .i64 (x1 : Int))); have ba := B4.out.trans (below_only g5 (by omega) B4.out.size); have B6 := Lib.hid (hw6 ▸ ba.setCell (p := ⟨w3.heap.size, 0, none⟩) (show w.heap.size ≤ w3.heap.size by omega) (.int .i64 (x1 : Int))); have Y6 := Lib.hid y6; have m60 := y6.cell 0; have m61 := y6.cell 1; have m62 := y6.cell 2; have m63 := y6.cell 3; have m64 := y6.cell 4; clear t5 g5 y5 y6 xa ba)
    | (go_at_call 32; (try rw [hw6]); (with_reducible refine (N2.out _ _ T6.out).mono ?_); rintro r7 w7 ⟨rfl, t7, g7⟩; have y7 := Y6.out.grown g7 (by intro e; injection e with e; omega); have fx70 := y7.free 0; have fx71 := y7.free 1; have fx72 := y7.free 2; have fx73 := y7.free 3; have fx74 := y7.free 4; have cx70 := y7.cell 0; have cx71 := y7.cell 1; have cx72 := y7.cell 2; have cx73 := y7.cell 3; have cx74 := y7.cell 4; obtain ⟨w8, hw8⟩ : ∃ w8, w7.setCell ⟨w3.heap.size, 1, none⟩ (.int .u64 (x2 : Int)) = w8 := ⟨_, rfl⟩; have y8 : Has w8 w3.heap.size 32 #[.int .i64 (x1 : Int), .int .u64 (x2 : Int), .int .i64 0, .int .i64 0, .int .i64 0] := by { rw [← hw8]; simpa using y7.store 1 (.int .u64 (x2 : Int)) }; have T8 := Lib.hid (hw8 ▸ RT.away10 t7 (p := ⟨w3.heap.size, 1, none⟩) (show w1.heap.size ≠ w3.heap.size by omega) (.int .u64 (x2 : Int))); have xa := X6.out.grown g7 (by intro e; injection e with e; omega); have X8 := Lib.hid (hw8 ▸ xa.away (p := ⟨w3.heap.size, 1, none⟩) (show w.heap.size ≠ w3.heap.size by omega) (.int .u64 (x2 : Int))); have ba := B6.out.trans (below_only g7 (by omega) B6.out.size); have B8 := Lib.hid (hw8 ▸ ba.setCell (p := ⟨w3.heap.size, 1, none⟩) (show w.heap.size ≤ w3.heap.size by omega) (.int .u64 (x2 : Int))); have Y8 := Lib.hid y8; have m80 := y8.cell 0; have m81 := y8.cell 1; have m82 := y8.cell 2; have m83 := y8.cell 3; have m84 := y8.cell 4; clear t7 g7 y7 y8 xa ba)
    | (go_at_call 32; (try rw [hw12]); (with_reducible refine (N5.out _ _ T12.out).mono ?_); rintro r13 w13 ⟨rfl, t13, g13⟩; have y13 := Y12.out.grown g13 (by intro e; injection e with e; omega); have fx130 := y13.free 0; have fx131 := y13.free 1; have fx132 := y13.free 2; have fx133 := y13.free 3; have fx134 := y13.free 4; have cx130 := y13.cell 0; have cx131 := y13.cell 1; have cx132 := y13.cell 2; have cx133 := y13.cell 3; have cx134 := y13.cell 4; obtain ⟨w14, hw14⟩ : ∃ w14, w13.setCell ⟨w3.heap.size, 4, none⟩ (.int .i64 (x5 : Int)) = w14 := ⟨_, rfl⟩; have y14 : Has w14 w3.heap.size 32 #[.int .i64 (x1 : Int), .int .u64 (x2 : Int), .int .i64 (x3 : Int), .int .i64 (x4 : Int), .int .i64 (x5 : Int)] := by { rw [← hw14]; simpa using y13.store 4 (.int .i64 (x5 : Int)) }; have T14 := Lib.hid (hw14 ▸ RT.away10 t13 (p := ⟨w3.heap.size, 4, none⟩) (show w1.heap.size ≠ w3.heap.size by omega) (.int .i64 (x5 : Int))); have xa := X12.out.grown g13 (by intro e; injection e with e; omega); have X14 := Lib.hid (hw14 ▸ xa.away (p := ⟨w3.heap.size, 4, none⟩) (show w.heap.size ≠ w3.heap.size by omega) (.int .i64 (x5 : Int))); have ba := B12.out.trans (below_only g13 (by omega) B12.out.size); have B14 := Lib.hid (hw14 ▸ ba.setCell (p := ⟨w3.heap.size, 4, none⟩) (show w.heap.size ≤ w3.heap.size by omega) (.int .i64 (x5 : Int))); have Y14 := Lib.hid y14; have m140 := y14.cell 0; have m141 := y14.cell 1; have m142 := y14.cell 2; have m143 := y14.cell 3; have m144 := y14.cell 4; clear t13 g13 y13 y14 xa ba)
    | (go_at_call 32; (try rw [hw10]); (with_reducible refine (N4.out _ _ T10.out).mono ?_); rintro r11 w11 ⟨rfl, t11, g11⟩; have y11 := Y10.out.grown g11 (by intro e; injection e with e; omega); have fx110 := y11.free 0; have fx111 := y11.free 1; have fx112 := y11.free 2; have fx113 := y11.free 3; have fx114 := y11.free 4; have cx110 := y11.cell 0; have cx111 := y11.cell 1; have cx112 := y11.cell 2; have cx113 := y11.cell 3; have cx114 := y11.cell 4; obtain ⟨w12, hw12⟩ : ∃ w12, w11.setCell ⟨w3.heap.size, 3, none⟩ (.int .i64 (x4 : Int)) = w12 := ⟨_, rfl⟩; have y12 : Has w12 w3.heap.size 32 #[.int .i64 (x1 : Int), .int .u64 (x2 : Int), .int .i64 (x3 : Int), .int .i64 (x4 : Int), .int .i64 0] := by { rw [← hw12]; simpa using y11.store 3 (.int .i64 (x4 : Int)) }; have T12 := Lib.hid (hw12 ▸ RT.away10 t11 (p := ⟨w3.heap.size, 3, none⟩) (show w1.heap.size ≠ w3.heap.size by omega) (.int .i64 (x4 : Int))); have xa := X10.out.grown g11 (by intro e; injection e with e; omega); have X12 := Lib.hid (hw12 ▸ xa.away (p := ⟨w3.heap.size, 3, none⟩) (show w.heap.size ≠ w3.heap.size by omega) (.int .i64 (x4 : Int))); have ba := B10.out.trans (below_only g11 (by omega) B10.out.size); have B12 := Lib.hid (hw12 ▸ ba.setCell (p := ⟨w3.heap.size, 3, none⟩) (show w.heap.size ≤ w3.heap.size by omega) (.int .i64 (x4 : Int))); have Y12 := Lib.hid y12; have m120 := y12.cell 0; have m121 := y12.cell 1; have m122 := y12.cell 2; have m123 := y12.cell 3; have m124 := y12.cell 4; clear t11 g11 y11 y12 xa ba)
    | (go_at_call 32; (try rw [hw8]); (with_reducible refine (N3.out _ _ T8.out).mono ?_); rintro r9 w9 ⟨rfl, t9, g9⟩; have y9 := Y8.out.grown g9 (by intro e; injection e with e; omega); have fx90 := y9.free 0; have fx91 := y9.free 1; have fx92 := y9.free 2; have fx93 := y9.free 3; have fx94 := y9.free 4; have cx90 := y9.cell 0; have cx91 := y9.cell 1; have cx92 := y9.cell 2; have cx93 := y9.cell 3; have cx94 := y9.cell 4; obtain ⟨w10, hw10⟩ : ∃ w10, w9.setCell ⟨w3.heap.size, 2, none⟩ (.int .i64 (x3 : Int)) = w10 := ⟨_, rfl⟩; have y10 : Has w10 w3.heap.size 32 #[.int .i64 (x1 : Int), .int .u64 (x2 : Int), .int .i64 (x3 : Int), .int .i64 0, .int .i64 0] := by { rw [← hw10]; simpa using y9.store 2 (.int .i64 (x3 : Int)) }; have T10 := Lib.hid (hw10 ▸ RT.away10 t9 (p := ⟨w3.heap.size, 2, none⟩) (show w1.heap.size ≠ w3.heap.size by omega) (.int .i64 (x3 : Int))); have xa := X8.out.grown g9 (by intro e; injection e with e; omega); have X10 := Lib.hid (hw10 ▸ xa.away (p := ⟨w3.heap.size, 2, none⟩) (show w.heap.size ≠ w3.heap.size by omega) (.int .i64 (x3 : Int))); have ba := B8.out.trans (below_only g9 (by omega) B8.out.size); have B10 := Lib.hid (hw10 ▸ ba.setCell (p := ⟨w3.heap.size, 2, none⟩) (show w.heap.size ≤ w3.heap.size by omega) (.int .i64 (x3 : Int))); have Y10 := Lib.hid y10; have m100 := y10.cell 0; have m101 := y10.cell 1; have m102 := y10.cell 2; have m103 := y10.cell 3; have m104 := y10.cell 4; clear t9 g9 y9 y10 xa ba)
    | (go_at_call 10; (try rw [hw14]); (with_reducible refine (HP.out _).mono ?_); rintro r20 w20 ⟨rfl, b20⟩; have y20 := X14.out.below b20 X14.out.lt; have fx0 := y20.free 0; have fx1 := y20.free 1; have fx2 := y20.free 2; have fx3 := y20.free 3; have fx4 := y20.free 4; have cx0 := y20.cell 0; have cx1 := y20.cell 1; have cx2 := y20.cell 2; have cx3 := y20.cell 3; have cx4 := y20.cell 4; have u20 := Y14.out.below b20 Y14.out.lt; have n0 := u20.cell 0; have n1 := u20.cell 1; have n2 := u20.cell 2; have n3 := u20.cell 3; have n4 := u20.cell 4; have X20 := Lib.hid y20; have B20 := Lib.hid (below_step B14.out b20); clear b20 y20 u20))
  have XE := X20.out.setM (.int .i64 0) (.int .u64 0) (.int .i64 0) (.int .i64 0) (.int .i64 0)
  have q0 := XE.cell 0
  have q1 := XE.cell 1
  have q2 := XE.cell 2
  have q3 := XE.cell 3
  have q4 := XE.cell 4
  unfold stM5 at q0 q1 q2 q3 q4
  refine ⟨rfl, .tuple #[.agg #[.int .i64 0, .int .u64 0, .int .i64 0, .int .i64 0, .int .i64 0], .int .i64 11], ?_, rfl, below_setM B20.out (Nat.le_refl _) (.int .i64 0) (.int .u64 0) (.int .i64 0) (.int .i64 0) (.int .i64 0)⟩
  simp at q0 q1 q2 q3 q4
  simp [results, Tryd.f17, go_sem, q0, q1, q2, q3, q4]
set_option maxRecDepth 100000 in
set_option maxHeartbeats 8000000 in
theorem r10Get_yes (b : List UInt8) (k : UInt8) (cb : List UInt8) (w : World) (hbl : b.length ≤ 1000000) (he : unpN b = (k, [cb], 0)) (hl : cb.length = 19) (hc : checkM (readM cb)) (hv : pageM (readM cb) = b) :
    Calls Tryd.prog 17 #[.string ⟨b.toArray⟩] w (GetM10 (readM cb, 0) w) := by
  have hzt := zero_t10
  have hz := zero_rmeta
  obtain ⟨W, hW, hb, hh, hs⟩ := mbox0 w 32
  have HB := Lib.hid hb
  have HH := Lib.hid hh
  have HU : Hid (Calls Tryd.prog 31 #[.string ⟨b.toArray⟩] W (RUnpEnd (unpN b) W)) := Lib.hid (r7Unpack_any ⟨b.toArray⟩ W (by rw [size_list]; exact hbl))
  rw [he] at HU
  obtain ⟨cs, hcs⟩ : ∃ cs : ByteArray, (⟨cb.toArray⟩ : ByteArray) = cs := ⟨_, rfl⟩
  have hcz : cs.size = cb.length := by rw [← hcs, size_list]
  have hz19 : ((cs.size : Int) != 19) = false := by simp; omega
  have hz20 : cs.size = 19 := by omega
  have HCS := Lib.hid hcs
  have HP := Lib.hid (fun w1 => r10Put_yes (readM cb) w1 hc (readM_txn cb))
  rw [hv] at HP
  unfold RPackEnd at HP
  clear hc hv
  have hv2 : mtV (readM cb) = .agg #[.int .i64 ((rdL cb).1 : Int), .int .u64 ((rdT cb).1 : Int), .int .i64 ((rdR cb).1 : Int), .int .i64 ((rdS cb).1 : Int), .int .i64 ((rdH cb).1 : Int)] := rfl
  rw [hv2] at HP
  unfold GetM10
  rw [show mtV ((readM cb, (0 : Int)) : Mt × Int).1 = .agg #[.int .i64 ((rdL cb).1 : Int), .int .u64 ((rdT cb).1 : Int), .int .i64 ((rdR cb).1 : Int), .int .i64 ((rdS cb).1 : Int), .int .i64 ((rdH cb).1 : Int)] from rfl]
  clear hv2
  have hx1 : (rdL cb).1 ≤ 255 := stN_one _ _
  have hx3 : (rdR cb).1 < 65536 := stN_small _ _
  have hx4 : (rdS cb).1 < 65536 := stN_small _ _
  have hx5 : (rdH cb).1 < 65536 := stN_small _ _
  have z0 : (stN cb 0 4).2.1.length ≤ 19 := Nat.le_trans (stN_len cb 0 4) (Nat.le_of_eq hl)
  have z1 : (rdL cb).2.1.length ≤ 19 := Nat.le_trans (stN_len _ _ _) z0
  have z2 : (rdT cb).2.1.length ≤ 19 := Nat.le_trans (stN_len _ _ _) z1
  have z3 : (rdR cb).2.1.length ≤ 19 := Nat.le_trans (stN_len _ _ _) z2
  have z4 : (rdS cb).2.1.length ≤ 19 := Nat.le_trans (stN_len _ _ _) z3
  have N0 := Lib.hid (fun Q w1 (h : RT w1 Q cb 0) => rtNum_any Q cb 0 4 w1 h (by omega))
  have N1 : Hid (∀ Q w1, RT w1 Q (stN cb 0 4).2.1 (stN cb 0 4).2.2 → Calls Tryd.prog 32 #[.pointer (some ⟨Q, 0, none⟩), .int .i64 1] w1 (RNumEnd Q w1 (rdL cb).1 (rdL cb).2.1 (rdL cb).2.2)) := Lib.hid (fun Q w1 h => rtNum_any Q _ _ 1 w1 h (by omega))
  have N2 : Hid (∀ Q w1, RT w1 Q (rdL cb).2.1 (rdL cb).2.2 → Calls Tryd.prog 32 #[.pointer (some ⟨Q, 0, none⟩), .int .i64 8] w1 (RNumEnd Q w1 (rdT cb).1 (rdT cb).2.1 (rdT cb).2.2)) := Lib.hid (fun Q w1 h => rtNum_any Q _ _ 8 w1 h (by omega))
  have N3 : Hid (∀ Q w1, RT w1 Q (rdT cb).2.1 (rdT cb).2.2 → Calls Tryd.prog 32 #[.pointer (some ⟨Q, 0, none⟩), .int .i64 2] w1 (RNumEnd Q w1 (rdR cb).1 (rdR cb).2.1 (rdR cb).2.2)) := Lib.hid (fun Q w1 h => rtNum_any Q _ _ 2 w1 h (by omega))
  have N4 : Hid (∀ Q w1, RT w1 Q (rdR cb).2.1 (rdR cb).2.2 → Calls Tryd.prog 32 #[.pointer (some ⟨Q, 0, none⟩), .int .i64 2] w1 (RNumEnd Q w1 (rdS cb).1 (rdS cb).2.1 (rdS cb).2.2)) := Lib.hid (fun Q w1 h => rtNum_any Q _ _ 2 w1 h (by omega))
  have N5 : Hid (∀ Q w1, RT w1 Q (rdS cb).2.1 (rdS cb).2.2 → Calls Tryd.prog 32 #[.pointer (some ⟨Q, 0, none⟩), .int .i64 2] w1 (RNumEnd Q w1 (rdH cb).1 (rdH cb).2.1 (rdH cb).2.2)) := Lib.hid (fun Q w1 h => rtNum_any Q _ _ 2 w1 h (by omega))
  clear z0 z1 z2 z3 z4
  generalize rdH cb = a5 at *
  generalize rdS cb = a4 at *
  generalize rdR cb = a3 at *
  generalize rdT cb = a2 at *
  generalize rdL cb = a1 at *
  generalize stN cb 0 4 = a0 at *
  obtain ⟨x0, l0, e0⟩ := a0
  obtain ⟨x1, l1, e1⟩ := a1
  obtain ⟨x2, l2, e2⟩ := a2
  obtain ⟨x3, l3, e3⟩ := a3
  obtain ⟨x4, l4, e4⟩ := a4
  obtain ⟨x5, l5, e5⟩ := a5
  simp only at N0 N1 N2 N3 N4 N5 hx1 hx3 hx4 hx5 HP ⊢
  unfold RNumEnd at N0 N1 N2 N3 N4 N5
  have hw1 : IntKind.i64.wrap (x1 : Int) = (x1 : Int) := IntWalk.i64_in _ (by omega)
  have hw3 : IntKind.i64.wrap (x3 : Int) = (x3 : Int) := IntWalk.i64_in _ (by omega)
  have hw4 : IntKind.i64.wrap (x4 : Int) = (x4 : Int) := IntWalk.i64_in _ (by omega)
  have hw5 : IntKind.i64.wrap (x5 : Int) = (x5 : Int) := IntWalk.i64_in _ (by omega)
  obtain ⟨bs, hbs⟩ : ∃ bs : ByteArray, (⟨b.toArray⟩ : ByteArray) = bs := ⟨_, rfl⟩
  rw [hbs] at HU HP ⊢
  clear hb hh hs he hl hbs hcs hcz hx1 hx3 hx4 hx5
  go_enter Tryd.func17, Tryd.ntmps17
  go_wp2_with (first
    | (go_at_call 31; (try rw [hW]); (with_reducible refine HU.out.mono ?_); rintro r1 w1 ⟨A1, n1, c1, rfl, k1, b1⟩; obtain rfl : n1 = 1 := k1.len; obtain ⟨gg, goff, rfl, hrd⟩ := k1.at (k := 0) (by simp); have hrd2 : w1.cell? ⟨gg, goff, none⟩ = some (.string cs) := by { rw [← HCS.out]; exact hrd }; have X1 := Lib.hid (HH.out.below b1 HH.out.lt); have B1 := Lib.hid (below_step HB.out b1); have hwl : w.heap.size < w1.heap.size := X1.out.lt; obtain ⟨w2, hw2⟩ : ∃ w2, w1.alloc (.cells #[.string cs, .int .i64 0] 70) = w2 := ⟨_, rfl⟩; have T2 := Lib.hid (show RT w2 w1.heap.size cb 0 by { unfold RT; rw [HCS.out]; exact hw2 ▸ Has.made w1 70 _ }); have b2 : Below w1.heap.size w1 w2 := hw2 ▸ (Below.refl _ w1).alloc (Nat.le_refl _) _; have X2 := Lib.hid (X1.out.below b2 X1.out.lt); have B2 := Lib.hid (below_step B1.out b2); clear b2; clear k1 b1 hrd)
    | (go_at_call 32; (try rw [hw2]); (with_reducible refine (N0.out _ _ T2.out).mono ?_); rintro r3 w3 ⟨rfl, t3, g3⟩; have B3 := Lib.hid (B2.out.trans (below_only g3 (by omega) B2.out.size)); have X3 := Lib.hid (X2.out.grown g3 (by intro e; injection e with e; omega)); obtain ⟨w4, hw4⟩ : ∃ w4, w3.alloc (.cells #[.int .i64 0, .int .u64 0, .int .i64 0, .int .i64 0, .int .i64 0] 32) = w4 := ⟨_, rfl⟩; have b4 : Below w3.heap.size w3 w4 := hw4 ▸ (Below.refl _ w3).alloc (Nat.le_refl _) _; have hQ : w1.heap.size < w3.heap.size := Has.lt t3; have y4 := hw4 ▸ Has.made w3 32 #[.int .i64 0, .int .u64 0, .int .i64 0, .int .i64 0, .int .i64 0]; have T4 := Lib.hid (RT.below10 t3 b4); have X4 := Lib.hid (X3.out.below b4 X3.out.lt); have B4 := Lib.hid (below_step B3.out b4); have Y4 := Lib.hid y4; have m40 := y4.cell 0; have m41 := y4.cell 1; have m42 := y4.cell 2; have m43 := y4.cell 3; have m44 := y4.cell 4; have HW4 := Lib.hid hw4; clear t3 g3 b4 y4 hw4)
    | (go_at_call 32; (try rw [HW4.out]); (with_reducible refine (N1.out _ _ T4.out).mono ?_); rintro r5 w5 ⟨rfl, t5, g5⟩; have y5 := Y4.out.grown g5 (by intro e; injection e with e; omega); have fx50 := y5.free 0; have fx51 := y5.free 1; have fx52 := y5.free 2; have fx53 := y5.free 3; have fx54 := y5.free 4; have cx50 := y5.cell 0; have cx51 := y5.cell 1; have cx52 := y5.cell 2; have cx53 := y5.cell 3; have cx54 := y5.cell 4; obtain ⟨w6, hw6⟩ : ∃ w6, w5.setCell ⟨w3.heap.size, 0, none⟩ (.int .i64 (x1 : Int)) = w6 := ⟨_, rfl⟩; have y6 : Has w6 w3.heap.size 32 #[.int .i64 (x1 : Int), .int .u64 0, .int .i64 0, .int .i64 0, .int .i64 0] := by { rw [← hw6]; simpa using y5.store 0 (.int .i64 (x1 : Int)) }; have T6 := Lib.hid (hw6 ▸ RT.away10 t5 (p := ⟨w3.heap.size, 0, none⟩) (show w1.heap.size ≠ w3.heap.size by omega) (.int .i64 (x1 : Int))); have xa := X4.out.grown g5 (by intro e; injection e with e; omega); have X6 := Lib.hid (hw6 ▸ xa.away (p := ⟨w3.heap.size, 0, none⟩) (show w.heap.size ≠ w3.heap.size by omega) (.int .i64 (x1 : Int))); have ba := B4.out.trans (below_only g5 (by omega) B4.out.size); have B6 := Lib.hid (hw6 ▸ ba.setCell (p := ⟨w3.heap.size, 0, none⟩) (show w.heap.size ≤ w3.heap.size by omega) (.int .i64 (x1 : Int))); have Y6 := Lib.hid y6; have m60 := y6.cell 0; have m61 := y6.cell 1; have m62 := y6.cell 2; have m63 := y6.cell 3; have m64 := y6.cell 4; clear t5 g5 y5 y6 xa ba)
    | (go_at_call 32; (try rw [hw6]); (with_reducible refine (N2.out _ _ T6.out).mono ?_); rintro r7 w7 ⟨rfl, t7, g7⟩; have y7 := Y6.out.grown g7 (by intro e; injection e with e; omega); have fx70 := y7.free 0; have fx71 := y7.free 1; have fx72 := y7.free 2; have fx73 := y7.free 3; have fx74 := y7.free 4; have cx70 := y7.cell 0; have cx71 := y7.cell 1; have cx72 := y7.cell 2; have cx73 := y7.cell 3; have cx74 := y7.cell 4; obtain ⟨w8, hw8⟩ : ∃ w8, w7.setCell ⟨w3.heap.size, 1, none⟩ (.int .u64 (x2 : Int)) = w8 := ⟨_, rfl⟩; have y8 : Has w8 w3.heap.size 32 #[.int .i64 (x1 : Int), .int .u64 (x2 : Int), .int .i64 0, .int .i64 0, .int .i64 0] := by { rw [← hw8]; simpa using y7.store 1 (.int .u64 (x2 : Int)) }; have T8 := Lib.hid (hw8 ▸ RT.away10 t7 (p := ⟨w3.heap.size, 1, none⟩) (show w1.heap.size ≠ w3.heap.size by omega) (.int .u64 (x2 : Int))); have xa := X6.out.grown g7 (by intro e; injection e with e; omega); have X8 := Lib.hid (hw8 ▸ xa.away (p := ⟨w3.heap.size, 1, none⟩) (show w.heap.size ≠ w3.heap.size by omega) (.int .u64 (x2 : Int))); have ba := B6.out.trans (below_only g7 (by omega) B6.out.size); have B8 := Lib.hid (hw8 ▸ ba.setCell (p := ⟨w3.heap.size, 1, none⟩) (show w.heap.size ≤ w3.heap.size by omega) (.int .u64 (x2 : Int))); have Y8 := Lib.hid y8; have m80 := y8.cell 0; have m81 := y8.cell 1; have m82 := y8.cell 2; have m83 := y8.cell 3; have m84 := y8.cell 4; clear t7 g7 y7 y8 xa ba)
    | (go_at_call 32; (try rw [hw12]); (with_reducible refine (N5.out _ _ T12.out).mono ?_); rintro r13 w13 ⟨rfl, t13, g13⟩; have y13 := Y12.out.grown g13 (by intro e; injection e with e; omega); have fx130 := y13.free 0; have fx131 := y13.free 1; have fx132 := y13.free 2; have fx133 := y13.free 3; have fx134 := y13.free 4; have cx130 := y13.cell 0; have cx131 := y13.cell 1; have cx132 := y13.cell 2; have cx133 := y13.cell 3; have cx134 := y13.cell 4; obtain ⟨w14, hw14⟩ : ∃ w14, w13.setCell ⟨w3.heap.size, 4, none⟩ (.int .i64 (x5 : Int)) = w14 := ⟨_, rfl⟩; have y14 : Has w14 w3.heap.size 32 #[.int .i64 (x1 : Int), .int .u64 (x2 : Int), .int .i64 (x3 : Int), .int .i64 (x4 : Int), .int .i64 (x5 : Int)] := by { rw [← hw14]; simpa using y13.store 4 (.int .i64 (x5 : Int)) }; have T14 := Lib.hid (hw14 ▸ RT.away10 t13 (p := ⟨w3.heap.size, 4, none⟩) (show w1.heap.size ≠ w3.heap.size by omega) (.int .i64 (x5 : Int))); have xa := X12.out.grown g13 (by intro e; injection e with e; omega); have X14 := Lib.hid (hw14 ▸ xa.away (p := ⟨w3.heap.size, 4, none⟩) (show w.heap.size ≠ w3.heap.size by omega) (.int .i64 (x5 : Int))); have ba := B12.out.trans (below_only g13 (by omega) B12.out.size); have B14 := Lib.hid (hw14 ▸ ba.setCell (p := ⟨w3.heap.size, 4, none⟩) (show w.heap.size ≤ w3.heap.size by omega) (.int .i64 (x5 : Int))); have Y14 := Lib.hid y14; have m140 := y14.cell 0; have m141 := y14.cell 1; have m142 := y14.cell 2; have m143 := y14.cell 3; have m144 := y14.cell 4; clear t13 g13 y13 y14 xa ba)
    | (go_at_call 32; (try rw [hw10]); (with_reducible refine (N4.out _ _ T10.out).mono ?_); rintro r11 w11 ⟨rfl, t11, g11⟩; have y11 := Y10.out.grown g11 (by intro e; injection e with e; omega); have fx110 := y11.free 0; have fx111 := y11.free 1; have fx112 := y11.free 2; have fx113 := y11.free 3; have fx114 := y11.free 4; have cx110 := y11.cell 0; have cx111 := y11.cell 1; have cx112 := y11.cell 2; have cx113 := y11.cell 3; have cx114 := y11.cell 4; obtain ⟨w12, hw12⟩ : ∃ w12, w11.setCell ⟨w3.heap.size, 3, none⟩ (.int .i64 (x4 : Int)) = w12 := ⟨_, rfl⟩; have y12 : Has w12 w3.heap.size 32 #[.int .i64 (x1 : Int), .int .u64 (x2 : Int), .int .i64 (x3 : Int), .int .i64 (x4 : Int), .int .i64 0] := by { rw [← hw12]; simpa using y11.store 3 (.int .i64 (x4 : Int)) }; have T12 := Lib.hid (hw12 ▸ RT.away10 t11 (p := ⟨w3.heap.size, 3, none⟩) (show w1.heap.size ≠ w3.heap.size by omega) (.int .i64 (x4 : Int))); have xa := X10.out.grown g11 (by intro e; injection e with e; omega); have X12 := Lib.hid (hw12 ▸ xa.away (p := ⟨w3.heap.size, 3, none⟩) (show w.heap.size ≠ w3.heap.size by omega) (.int .i64 (x4 : Int))); have ba := B10.out.trans (below_only g11 (by omega) B10.out.size); have B12 := Lib.hid (hw12 ▸ ba.setCell (p := ⟨w3.heap.size, 3, none⟩) (show w.heap.size ≤ w3.heap.size by omega) (.int .i64 (x4 : Int))); have Y12 := Lib.hid y12; have m120 := y12.cell 0; have m121 := y12.cell 1; have m122 := y12.cell 2; have m123 := y12.cell 3; have m124 := y12.cell 4; clear t11 g11 y11 y12 xa ba)
    | (go_at_call 32; (try rw [hw8]); (with_reducible refine (N3.out _ _ T8.out).mono ?_); rintro r9 w9 ⟨rfl, t9, g9⟩; have y9 := Y8.out.grown g9 (by intro e; injection e with e; omega); have fx90 := y9.free 0; have fx91 := y9.free 1; have fx92 := y9.free 2; have fx93 := y9.free 3; have fx94 := y9.free 4; have cx90 := y9.cell 0; have cx91 := y9.cell 1; have cx92 := y9.cell 2; have cx93 := y9.cell 3; have cx94 := y9.cell 4; obtain ⟨w10, hw10⟩ : ∃ w10, w9.setCell ⟨w3.heap.size, 2, none⟩ (.int .i64 (x3 : Int)) = w10 := ⟨_, rfl⟩; have y10 : Has w10 w3.heap.size 32 #[.int .i64 (x1 : Int), .int .u64 (x2 : Int), .int .i64 (x3 : Int), .int .i64 0, .int .i64 0] := by { rw [← hw10]; simpa using y9.store 2 (.int .i64 (x3 : Int)) }; have T10 := Lib.hid (hw10 ▸ RT.away10 t9 (p := ⟨w3.heap.size, 2, none⟩) (show w1.heap.size ≠ w3.heap.size by omega) (.int .i64 (x3 : Int))); have xa := X8.out.grown g9 (by intro e; injection e with e; omega); have X10 := Lib.hid (hw10 ▸ xa.away (p := ⟨w3.heap.size, 2, none⟩) (show w.heap.size ≠ w3.heap.size by omega) (.int .i64 (x3 : Int))); have ba := B8.out.trans (below_only g9 (by omega) B8.out.size); have B10 := Lib.hid (hw10 ▸ ba.setCell (p := ⟨w3.heap.size, 2, none⟩) (show w.heap.size ≤ w3.heap.size by omega) (.int .i64 (x3 : Int))); have Y10 := Lib.hid y10; have m100 := y10.cell 0; have m101 := y10.cell 1; have m102 := y10.cell 2; have m103 := y10.cell 3; have m104 := y10.cell 4; clear t9 g9 y9 y10 xa ba)
    | (go_at_call 10; (try rw [hw14]); (with_reducible refine (HP.out _).mono ?_); rintro r20 w20 ⟨rfl, b20⟩; have y20 := X14.out.below b20 X14.out.lt; have fx0 := y20.free 0; have fx1 := y20.free 1; have fx2 := y20.free 2; have fx3 := y20.free 3; have fx4 := y20.free 4; have cx0 := y20.cell 0; have cx1 := y20.cell 1; have cx2 := y20.cell 2; have cx3 := y20.cell 3; have cx4 := y20.cell 4; have u20 := Y14.out.below b20 Y14.out.lt; have n0 := u20.cell 0; have n1 := u20.cell 1; have n2 := u20.cell 2; have n3 := u20.cell 3; have n4 := u20.cell 4; have X20 := Lib.hid y20; have B20 := Lib.hid (below_step B14.out b20); clear b20 y20 u20))
  have XE := X20.out.setM (.int .i64 (x1 : Int)) (.int .u64 (x2 : Int)) (.int .i64 (x3 : Int)) (.int .i64 (x4 : Int)) (.int .i64 (x5 : Int))
  have q0 := XE.cell 0
  have q1 := XE.cell 1
  have q2 := XE.cell 2
  have q3 := XE.cell 3
  have q4 := XE.cell 4
  unfold stM5 at q0 q1 q2 q3 q4
  refine ⟨rfl, .tuple #[.agg #[.int .i64 (x1 : Int), .int .u64 (x2 : Int), .int .i64 (x3 : Int), .int .i64 (x4 : Int), .int .i64 (x5 : Int)], .int .i64 0], ?_, rfl, below_setM B20.out (Nat.le_refl _) (.int .i64 (x1 : Int)) (.int .u64 (x2 : Int)) (.int .i64 (x3 : Int)) (.int .i64 (x4 : Int)) (.int .i64 (x5 : Int))⟩
  simp at q0 q1 q2 q3 q4
  simp [results, Tryd.f17, go_sem, q0, q1, q2, q3, q4]
theorem r10Get_any (b : List UInt8) (w : World) (hbl : b.length ≤ 1000000) : Calls Tryd.prog 17 #[.string ⟨b.toArray⟩] w (GetM10 (getM b) w) := by
  by_cases he : (unpN b).2.2 = 0
  · by_cases hl : (unpN b).2.1.length = 1
    · obtain ⟨cb, hcb⟩ := List.length_eq_one_iff.1 hl
      have hu : unpN b = ((unpN b).1, [cb], 0) := by rw [← hcb, ← he]
      rw [getM_one hu]
      by_cases h19 : cb.length = 19
      · by_cases hc : checkM (readM cb)
        · by_cases hv : pageM (readM cb) = b
          · rw [if_pos ⟨hc, hv⟩]
            exact r10Get_yes b _ cb w hbl hu h19 hc hv
          · rw [if_neg (fun hh : ansM b (readM cb) => hv hh.2)]
            exact r10Get_not b _ cb w hbl hu h19 hc hv
        · rw [if_neg (fun hh : ansM b (readM cb) => hc hh.1)]
          exact r10Get_no b _ cb w hbl hu h19 hc
      · rw [if_neg (not_nineteen hu h19)]
        exact r10Get_odd b _ cb w hbl hu h19
    · rw [getM_len he hl]
      exact r10Get_len b w hbl he hl
  · rw [getM_er he]
    exact r10Get_er b w hbl he
end Go.Proofs.YtpikcodnonodlaaDoor
