import Derived.Test.YtnponjdnjkegmaaDoorJ05
import Derived.Test.YtnponjdnjkegmaaDoorJ06
import Derived.Deep.AppendLies
import Derived.Test.YtnponjdnjkegmaaDoorJ04
import Derived.StillTail
/- Of a claim's texts, joined: Nei Rdk. No statement but in the last. -/
section
namespace Go.Proofs.YtnponjdnjkegmaaDoor
open Go.RowKit
set_option linter.unusedVariables false

theorem Row.kept_own {w w' : World} {t e : TypeId} {lo b s n : Nat} {A : Option Addr} {v : Value} {xs ys : List Value} (h : Row w t lo A xs) (ho : w.ownsRow b e s v n ys) (hne : t ≠ e) (hg : w.grownBy w' v.ownBlock) : Row w' t lo A xs :=
  h.keep_ fun g cs _ hh => hh.grown hg (fun hq => by
    rcases ho.2 with ⟨rfl, _⟩ | ⟨g', cap, cur, rfl, _, hc, _⟩
    · cases hq
    · obtain rfl : g = g' := by injection hq
      exact hh.apart (show Has w g e cur from hc) hne rfl)
theorem Has.kept_own {w w' : World} {t e : TypeId} {B b s n : Nat} {cs : Array Value} {v : Value} {ys : List Value} (h : Has w B t cs) (ho : w.ownsRow b e s v n ys) (hne : t ≠ e) (hg : w.grownBy w' v.ownBlock) : Has w' B t cs :=
  h.grown hg (fun hq => by
    rcases ho.2 with ⟨rfl, _⟩ | ⟨g', cap, cur, rfl, _, hc, _⟩
    · cases hq
    · obtain rfl : B = g' := by injection hq
      exact h.apart (show Has w B e cur from hc) hne rfl)
theorem below_own8 {B : Nat} {w0 w w' : World} {e : TypeId} {s n : Nat} {v : Value} {xs : List Value} (h : Below B w0 w) (hg : w.grownBy w' v.ownBlock) (ho : w.ownsRow B e s v n xs) (hB : B ≤ w.heap.size) : Below B w0 w' :=
  h.grown hg hB (fun k hk => (ho.lt k hk).1)
theorem Arg.of_row8 {w : World} {lo n c : Nat} {A : Option Addr} {l : List UInt8} (h : Row w 5 lo A (l.map byteV)) (hn : n = l.length) (h0 : 0 < n) (hc : n ≤ c) (hm : c ≤ maxLen) : Arg w A n c l :=
  ⟨hn, h.reads, fun _ a ha => by
    obtain ⟨g, off, cs, hA, _, hg, _⟩ := h (by rw [List.length_map]; omega)
    rw [ha] at hA
    injection hA with hA
    subst hA
    exact hg.lt, hc, hm, fun hA => absurd hA (h.some_ (by rw [List.length_map]; omega))⟩
structure RowH (B : Nat) (w : World) (x : Hd) : Prop where
  len : x.n = x.l.length
  pos : 0 < x.n
  row : Row w 5 B x.a (x.l.map byteV)
  room : x.n ≤ x.c
  most : x.c ≤ maxLen
theorem RowH.arg {B : Nat} {w : World} {x : Hd} (h : RowH B w x) : Arg w x.a x.n x.c x.l := Arg.of_row8 h.row h.len h.pos h.room h.most
theorem RowH.below {B : Nat} {w w' : World} {x : Hd} (h : RowH B w x) (hb : Below w.heap.size w w') : RowH B w' x := ⟨h.len, h.pos, h.row.below hb, h.room, h.most⟩
theorem RowH.own {B b s n : Nat} {w w' : World} {x : Hd} {v : Value} {ys : List Value} (h : RowH B w x) (ho : w.ownsRow b 31 s v n ys) (hg : w.grownBy w' v.ownBlock) : RowH B w' x := ⟨h.len, h.pos, h.row.kept_own ho (by decide) hg, h.room, h.most⟩
theorem own_by {w : World} {B : Nat} {t : TypeId} {v : Value} {s n : Nat} {xs : List Value} (h : w.ownsRow B t s v n xs) : ∃ A c, v = .slice A n c ∧ n ≤ c ∧ c ≤ maxLen := by
  rcases h.2 with ⟨rfl, rfl⟩ | ⟨g, cap, cur, rfl, _, _, h1, h2, _⟩
  · exact ⟨none, 0, rfl, Nat.le_refl _, Nat.zero_le _⟩
  · exact ⟨_, cap, rfl, h1, h2⟩
def CelSt (w : World) (leaf : Bool) (l : List En) (k : Nat) (v : Value) (wr : World) : Prop :=
  ∃ q : List Hd, lq q = cellsE leaf (l.take k) ∧ (∀ x ∈ q, RowH w.heap.size wr x) ∧ wr.ownsRow w.heap.size 31 1 v k (q.map Hd.v) ∧ Below w.heap.size w wr
theorem textB_ne (l : List UInt8) : 0 < (textB l).length := by rw [textB_len]; omega
theorem putE_ne (leaf : Bool) (e : En) : 0 < (putE leaf e).length := by rw [putE_len]; split; split <;> omega; omega
theorem cellE_ne (leaf : Bool) (e : En) : 0 < (cellE leaf e).length := by unfold cellE; rw [List.length_append]; have := textB_ne e.k; omega
theorem cellsE_snoc (leaf : Bool) {l : List En} {k : Nat} (hk : k < l.length) : cellsE leaf (l.take (k + 1)) = cellsE leaf (l.take k) ++ [cellE leaf l[k]] := by
  unfold cellsE
  rw [List.take_succ_eq_append_getElem hk, List.map_append]
  rfl
theorem lies_one (w : World) (u : Value) (t : TypeId) : ∀ j y, ([u] : List Value)[j]? = some y → (w.alloc (.cells #[u] t)).cell? ((⟨w.heap.size, 0, none⟩ : Addr).add j) = some y := fun j y hj => by
  rw [add_plain, (Has.made w t #[u]).cell, Nat.zero_add]
  simpa using hj

set_option maxRecDepth 100000 in
set_option maxHeartbeats 8000000 in
theorem nCells_true (A : Option Addr) (n c : Nat) (l : List En) (w : World) (h : NodA w A n c l) (hn : n ≤ 1000000) (hs : ∀ e ∈ l, e.k.length ≤ 3000 ∧ e.d.length ≤ 3000) :
    Calls Tryd.prog 15 #[.agg #[.bool true, .slice A n c]] w (CutEnd w (cellsE true l)) := by
  have hmx : Tryd.prog.follows .mixedOrders = true := by kernel_rfl
  obtain ⟨j0, hj, jz0, jz1, jz2⟩ := info_parts byinfo
  have HA := Lib.hid h
  have HL := Lib.hid h.len
  have HSM := Lib.hid hs
  have HSH : Hid (∀ w, Calls Tryd.prog 24 #[.agg #[.bool true, .slice A n c]] w fun e w' => e = .returned (.iface 89 (.agg #[])) ∧ Below w.heap.size w w') := Lib.hid (fun w => nShapeOf_any true A n c w)
  clear h hs
  go_enter Tryd.func15, Tryd.ntmps15
  obtain ⟨Wb, hWb⟩ : ∃ Wb, w.alloc (.cells #[.bool true, .slice A n c] 24) = Wb := ⟨_, rfl⟩
  have BB0 := Lib.hid (show Below w.heap.size w Wb from hWb ▸ (Below.refl _ w).alloc (Nat.le_refl _) _)
  have HBX := Lib.hid (show Has Wb w.heap.size 24 #[.bool true, .slice A n c] from hWb ▸ Has.made w _ _)
  have e0 := HBX.out.cell 0
  have e1 := HBX.out.cell 1
  go_wp2_with (go_at_call 24; (try rw [hWb]); (with_reducible refine (HSH.out _).mono ?_); rintro r1 w1 ⟨rfl, b1⟩; have X1 := HBX.out.below b1 HBX.out.lt; have f1 := X1.cell 1; have X1 := Lib.hid X1; have B1 := Lib.hid (below_step BB0.out b1); clear b1)
  go_loopw [4, 12] (fun v i wr => ∃ k : Nat, k ≤ n ∧ i = .int .i64 k ∧ CelSt w true l k v wr) (fun _ i _ => n - (intOf i).toNat)
  case atStart => exact ⟨0, Nat.zero_le _, rfl, [], rfl, fun x hx => (by cases hx), by_own_nil _ _, B1.out⟩
  case round =>
    obtain ⟨k, hk, rfl, q, hq1, hq2, hq3, hq4⟩ := hrel
    have Q1 := Lib.hid hq1
    have Q2 := Lib.hid hq2
    have Q3 := Lib.hid hq3
    have Q4 := Lib.hid hq4
    by_cases hlt : k < n
    · clear hq1 hq2 hq3 hq4
      have hkl : k < l.length := by have := HL.out; omega
      have hA := HA.out.below Q4.out
      obtain ⟨b, off, rfl, c0, c1, c2, c3, c4⟩ := hA.reads.eat hkl
      have hsm := HSM.out _ (List.getElem_mem hkl)
      have NXC := Lib.hid (cellsE_snoc true hkl)
      have i0 : (0 : Int) ≤ (k : Int) := by omega
      have i1 : (k : Int) < (n : Int) := by omega
      clear hA
      generalize l[k] = y at *
      have HT := Lib.hid (fun w => Text_any ⟨y.k.toArray⟩ w (by rw [size_list]; exact hsm.1))
      have HP := Lib.hid (fun w => nlPut_any y w (by omega))
      have HCE : Hid (cellE true y = textB y.k ++ putE true y) := Lib.hid rfl
      have t0 : 0 < (textB y.k).length := textB_ne _
      have t1 : 0 < (putE true y).length := putE_ne _ _
      have t2 : 0 < (cellE true y).length := cellE_ne _ _
      have t3 : (textB y.k).length ≤ 256 := by rw [textB_len]; have := Nat.min_le_right y.k.length 255; omega
      have t4 : (putE true y).length ≤ 4000 := by rw [putE_len]; split; split <;> omega; omega
      obtain ⟨yk, yd, far, sz, pg⟩ := y
      simp only [valV, cstV] at c0 c1 c2 c3 c4 HT HP
      generalize (⟨yd.toArray⟩ : ByteArray) = sd at *
      generalize hsk : (⟨yk.toArray⟩ : ByteArray) = sk at *
      have hskl : sk.data.toList = yk := by rw [← hsk]
      try rw [hskl] at HT
      generalize textB yk = tb at *
      generalize putE true ⟨yk, yd, far, sz, pg⟩ = pb at *
      generalize cellE true ⟨yk, yd, far, sz, pg⟩ = cb at *
      obtain ⟨Av, cv, rfl, hcv1, hcv2⟩ := own_by Q3.out
      clear hkl hsk hskl hsm hcv1 hcv2
      obtain ⟨W, hW⟩ : ∃ W, wr.alloc (.cells #[.string sk, .string sd, .bool far, .int .i64 sz, .int .i64 pg] 54) = W := ⟨_, rfl⟩
      have HX := Lib.hid (show Has W wr.heap.size 54 #[.string sk, .string sd, .bool far, .int .i64 sz, .int .i64 pg] from hW ▸ Has.made wr _ _)
      have BW : Below wr.heap.size wr W := hW ▸ (Below.refl _ wr).alloc (Nat.le_refl _) _
      have hX0 : Has W.drew wr.heap.size 54 #[.string sk, .string sd, .bool far, .int .i64 sz, .int .i64 pg] := HX.out
      go_wp2
      try rw [hW]
      rename_i K hK
      refine wp_heldHQ (fun w' => Has w' wr.heap.size 54 #[.string sk, .string sd, .bool far, .int .i64 sz, .int .i64 pg]) hmx ?_
      refine wpAnyH_take (i := 0) (v := .slice Av k cv) rfl (by kernel_rfl) (by kernel_rfl) (by kernel_rfl) (fun _ _ _ h => h) (Or.inl ⟨by rfl, ?_⟩) hX0 ?_
      · intro w6 s1
        go_simp
      simp only [Act.put, List.setIfInBounds_toArray, List.set_cons_zero, List.set_cons_succ, List.getElem_toArray, List.getElem_cons_zero]
      refine wpAnyH_take (i := 1) (v := .pointer (some ⟨wr.heap.size, 0, none⟩)) rfl (by kernel_rfl) (by kernel_rfl) (by kernel_rfl) (fun _ _ _ h => h) (Or.inl ⟨by rfl, ?_⟩) hX0 ?_
      · intro w6 s1
        go_simp
      simp only [Act.put, List.setIfInBounds_toArray, List.set_cons_zero, List.set_cons_succ, List.getElem_toArray, List.getElem_cons_zero, List.getElem_cons_succ]
      refine wpAnyH_take (i := 2) (v := .string sk) rfl (by kernel_rfl) (by kernel_rfl) (by kernel_rfl) (fun _ _ _ h => h) (Or.inl ⟨by rfl, ?_⟩) hX0 ?_
      · intro w6 s1
        have d0 := s1.cell 0
        go_simp
      simp only [Act.put, List.setIfInBounds_toArray, List.set_cons_zero, List.set_cons_succ, List.getElem_toArray, List.getElem_cons_zero, List.getElem_cons_succ]
      refine wpAnyH_take (i := 4) (v := .iface 89 (.agg #[])) rfl (by kernel_rfl) (by kernel_rfl) (by kernel_rfl) (fun _ _ _ h => h) (Or.inl ⟨by rfl, ?_⟩) hX0 ?_
      · intro w6 s1
        go_simp
      simp only [Act.put, List.setIfInBounds_toArray, List.set_cons_zero, List.set_cons_succ, List.getElem_toArray, List.getElem_cons_zero, List.getElem_cons_succ]
      refine wpAnyH_take (i := 5) (v := .pointer (some ⟨wr.heap.size, 1, none⟩)) rfl (by kernel_rfl) (by kernel_rfl) (by kernel_rfl) (fun _ _ _ h => h) (Or.inl ⟨by rfl, ?_⟩) hX0 ?_
      · intro w6 s1
        go_simp
      simp only [Act.put, List.setIfInBounds_toArray, List.set_cons_zero, List.set_cons_succ, List.getElem_toArray, List.getElem_cons_zero, List.getElem_cons_succ]
      refine wpAnyH_take (i := 6) (v := .agg #[.string sd, .bool far, .int .i64 sz, .int .i64 pg]) rfl (by kernel_rfl) (by kernel_rfl) (by kernel_rfl) (fun _ _ _ h => h) (Or.inl ⟨by rfl, ?_⟩) hX0 ?_
      · intro w6 s1
        have d0 := s1.cell 1
        have d1 := s1.cell 2
        have d2 := s1.cell 3
        have d3 := s1.cell 4
        go_simp
      simp only [Act.put, List.setIfInBounds_toArray, List.set_cons_zero, List.set_cons_succ, List.getElem_toArray, List.getElem_cons_zero, List.getElem_cons_succ]
      refine wpAnyH_ready (rs := [3]) (by kernel_rfl) (by simp) ?_
      refine AllReadyH.cons rfl (fun K5 hK5 => ?_) AllReadyH.nil
      go_simp
      go_at_call 26
      refine (HT.out _).mono ?_
      rintro e2 w2 ⟨A2, c2, rfl, g1, g2, g3, g4⟩
      have B2 : Below W.heap.size W w2 := (Below.refl W.heap.size W).drew.trans g4
      have R2 : RowH W.heap.size w2 ⟨A2, tb.length, c2, tb⟩ := ⟨rfl, t0, g3, g1, g2⟩
      have X2 := HX.out.below B2 HX.out.lt
      clear g1 g2 g3 g4
      refine hK5.out _ _ X2 (fun _ => ?_)
      clear hK5 K5
      refine wpAnyH_ready (rs := [7]) (by kernel_rfl) (by simp) ?_
      refine AllReadyH.cons rfl (fun K5 hK5 => ?_) AllReadyH.nil
      go_simp
      go_invoke
      go_simp
      go_at_call 85
      refine (HP.out _).mono ?_
      rintro e3 w3 ⟨A3, c3, rfl, g1, g2, g3, g4⟩
      have B3 : Below W.heap.size W w3 := below_step B2 g4
      have R3 : RowH W.heap.size w3 ⟨A3, pb.length, c3, pb⟩ := ⟨rfl, t1, g3.low B2.size, g1, g2⟩
      have R23 := R2.below g4
      have X3 := X2.below g4 X2.lt
      clear g1 g2 g3 g4
      refine hK5.out _ _ X3 (fun _ => ?_)
      clear hK5 K5
      refine wpAnyH_ready (rs := [8]) (by kernel_rfl) (by simp) ?_
      refine AllReadyH.cons rfl (fun K5 hK5 => ?_) AllReadyH.nil
      go_simp
      obtain ⟨w4, hw4⟩ : ∃ w4, w3.alloc (.cells #[.slice A2 tb.length c2, .slice A3 pb.length c3] 31) = w4 := ⟨_, rfl⟩
      try rw [hw4]
      have X4b : Below w3.heap.size w3 w4 := hw4 ▸ (Below.refl _ w3).alloc (Nat.le_refl _) _
      have B4 : Below W.heap.size W w4 := below_step B3 X4b
      have HC : Has w4 w3.heap.size 31 #[.slice A2 tb.length c2, .slice A3 pb.length c3] := hw4 ▸ Has.made w3 _ _
      have HQ := Lib.hid (cells_of (q := [⟨A2, tb.length, c2, tb⟩, ⟨A3, pb.length, c3, pb⟩]) (by simp) HC (by intro x hx; simp only [List.mem_cons, List.mem_nil_iff, or_false] at hx; rcases hx with rfl | rfl; exact (R23.below X4b).arg; exact (R3.below X4b).arg))
      have X4 := X3.below X4b X3.lt
      have HFL : Hid (flatH [⟨A2, tb.length, c2, tb⟩, ⟨A3, pb.length, c3, pb⟩] = cb) := Lib.hid (by rw [HCE.out]; simp [flatH])
      clear HC
      refine hK5.out _ _ X4 (fun _ => ?_)
      clear hK5 K5
      refine wpAnyH_ready (rs := [9]) (by kernel_rfl) (by simp) ?_
      refine AllReadyH.cons rfl (fun K5 hK5 => ?_) AllReadyH.nil
      go_simp
      go_at_call 25
      try rw [hw4]
      refine (concatB_any _ 2 2 _ w4 HQ.out (by rw [HFL.out, HCE.out, List.length_append]; omega) (by decide)).mono ?_
      rw [HFL.out]
      rintro e5 w5 ⟨A5, c5, rfl, g1, g2, g3, g4⟩
      have B5 : Below W.heap.size W w5 := below_step B4 g4
      have R5 : RowH w.heap.size w5 ⟨A5, cb.length, c5, cb⟩ := ⟨rfl, t2, g3.low (by have := B4.size; have := BW.size; have := Q4.out.size; omega), g1, g2⟩
      have X5 := X4.below g4 X4.lt
      clear g1 g2 g3 g4
      refine hK5.out _ _ X5 (fun _ => ?_)
      clear hK5 K5
      refine wpAnyH_ready (rs := [10]) (by kernel_rfl) (by simp) ?_
      refine AllReadyH.cons rfl (fun K5 hK5 => ?_) AllReadyH.nil
      go_simp
      obtain ⟨w6, hw6⟩ : ∃ w6, w5.alloc (.cells #[.slice A5 cb.length c5] 31) = w6 := ⟨_, rfl⟩
      try rw [hw6]
      have X6b : Below w5.heap.size w5 w6 := hw6 ▸ (Below.refl _ w5).alloc (Nat.le_refl _) _
      have B6 : Below W.heap.size W w6 := below_step B5 X6b
      have X6 := X5.below X6b X5.lt
      have BR : Below wr.heap.size wr w6 := below_step BW B6
      have BT : Below w.heap.size w w6 := below_step Q4.out BR
      have O6 := ceOwnBelow Q3.out BR
      have LS := hw6 ▸ lies_one w5 (.slice A5 cb.length c5) 31
      have R6 := R5.below X6b
      refine hK5.out _ _ X6 (fun _ => ?_)
      clear hK5 K5
      refine wpAnyH_ready (rs := [11]) (by kernel_rfl) (by simp) ?_
      refine AllReadyH.cons rfl (fun K5 hK5 => ?_) AllReadyH.nil
      refine step_append_lies _ rfl _ _ 40 rfl w.heap.size 31 j0 _ 1 24 Tryd.underlying40 hj jz0 jz1 jz2 rfl (by decide) _ k _ rfl O6 ⟨w5.heap.size, 0, none⟩ 1 1 [.slice A5 cb.length c5] rfl rfl LS (by intro u hu; simp at hu; subst hu; rfl) (by decide) (by unfold maxLen; omega) (by omega) BT.size _ rfl ?_
      intro g cap w7 h7 h8 h9 h10
      have B7 := Lib.hid (below_own8 BT h8 O6 BT.size)
      have X7 := X6.kept_own O6 (by decide) h8
      have R7 := Lib.hid (R6.own O6 h8)
      have K7 := Lib.hid (fun x hx => ((Q2.out x hx).below BR).own O6 h8)
      have O7 := Lib.hid h7
      clear h7 h8 h9 h10
      refine hK5.out _ _ X7 (fun _ => ?_)
      clear hK5 K5
      simp only [Act.put, List.setIfInBounds_toArray, List.set_cons_zero, List.set_cons_succ, List.getElem_toArray, List.getElem_cons_zero, List.getElem_cons_succ]
      refine wpAnyH_ready (rs := [12]) (by kernel_rfl) (by simp) ?_
      refine AllReadyH.cons rfl (fun K5 hK5 => ?_) AllReadyH.nil
      go_simp
      refine hK5.out _ _ X7 (fun _ => ?_)
      clear hK5 K5
      refine wpAnyH_done (by kernel_rfl) ?_ _
      refine hK _ _ ?_
      clear X2 X3 X4 X5 X6 X7 B2 B3 B4 B5 B6
      go_wp2
      go_roundw
      case rel =>
        refine ⟨k + 1, by omega, by go_num, q ++ [⟨A5, cb.length, c5, cb⟩], ?_, ?_, ?_, B7.out⟩
        · rw [lq_snoc, Q1.out, NXC.out]
        · intro x hx
          rcases List.mem_append.1 hx with hx | hx
          · exact K7.out x hx
          · obtain rfl := List.mem_singleton.1 hx
            exact R7.out
        · rw [hd_snoc]
          exact O7.out
      case measure => simp [intOf]; omega
    · obtain rfl : k = n := by omega
      have e : l.take k = l := List.take_of_length_le (by rw [← HL.out]; exact Nat.le_refl _)
      rw [e] at hq1
      obtain ⟨A2, c2, rfl, hC⟩ := CellsA.of_own hq3 (fun x hx => (hq2 x hx).arg)
      have HC := Lib.hid hC
      have HQ := Lib.hid hq1
      clear hq1 hq2 hq3 hq4 hC
      obtain ⟨w3, hw3⟩ : ∃ w3 : World, w3 = wr := ⟨_, rfl⟩
      subst hw3
      go_wp2
      go_ret
      exact ⟨A2, k, c2, q, rfl, HC.out, HQ.out, Q4.out⟩

set_option maxRecDepth 100000 in
set_option maxHeartbeats 8000000 in
theorem nCells_false (A : Option Addr) (n c : Nat) (l : List En) (w : World) (h : NodA w A n c l) (hn : n ≤ 1000000) (hs : ∀ e ∈ l, e.k.length ≤ 3000 ∧ e.d.length ≤ 3000) :
    Calls Tryd.prog 15 #[.agg #[.bool false, .slice A n c]] w (CutEnd w (cellsE false l)) := by
  have hmx : Tryd.prog.follows .mixedOrders = true := by kernel_rfl
  obtain ⟨j0, hj, jz0, jz1, jz2⟩ := info_parts byinfo
  have HA := Lib.hid h
  have HL := Lib.hid h.len
  have HSM := Lib.hid hs
  have HSH : Hid (∀ w, Calls Tryd.prog 24 #[.agg #[.bool false, .slice A n c]] w fun e w' => e = .returned (.iface 90 (.agg #[])) ∧ Below w.heap.size w w') := Lib.hid (fun w => nShapeOf_any false A n c w)
  clear h hs
  go_enter Tryd.func15, Tryd.ntmps15
  obtain ⟨Wb, hWb⟩ : ∃ Wb, w.alloc (.cells #[.bool false, .slice A n c] 24) = Wb := ⟨_, rfl⟩
  have BB0 := Lib.hid (show Below w.heap.size w Wb from hWb ▸ (Below.refl _ w).alloc (Nat.le_refl _) _)
  have HBX := Lib.hid (show Has Wb w.heap.size 24 #[.bool false, .slice A n c] from hWb ▸ Has.made w _ _)
  have e0 := HBX.out.cell 0
  have e1 := HBX.out.cell 1
  go_wp2_with (go_at_call 24; (try rw [hWb]); (with_reducible refine (HSH.out _).mono ?_); rintro r1 w1 ⟨rfl, b1⟩; have X1 := HBX.out.below b1 HBX.out.lt; have f1 := X1.cell 1; have X1 := Lib.hid X1; have B1 := Lib.hid (below_step BB0.out b1); clear b1)
  go_loopw [4, 12] (fun v i wr => ∃ k : Nat, k ≤ n ∧ i = .int .i64 k ∧ CelSt w false l k v wr) (fun _ i _ => n - (intOf i).toNat)
  case atStart => exact ⟨0, Nat.zero_le _, rfl, [], rfl, fun x hx => (by cases hx), by_own_nil _ _, B1.out⟩
  case round =>
    obtain ⟨k, hk, rfl, q, hq1, hq2, hq3, hq4⟩ := hrel
    have Q1 := Lib.hid hq1
    have Q2 := Lib.hid hq2
    have Q3 := Lib.hid hq3
    have Q4 := Lib.hid hq4
    by_cases hlt : k < n
    · clear hq1 hq2 hq3 hq4
      have hkl : k < l.length := by have := HL.out; omega
      have hA := HA.out.below Q4.out
      obtain ⟨b, off, rfl, c0, c1, c2, c3, c4⟩ := hA.reads.eat hkl
      have hsm := HSM.out _ (List.getElem_mem hkl)
      have NXC := Lib.hid (cellsE_snoc false hkl)
      have i0 : (0 : Int) ≤ (k : Int) := by omega
      have i1 : (k : Int) < (n : Int) := by omega
      clear hA
      generalize l[k] = y at *
      have HT := Lib.hid (fun w => Text_any ⟨y.k.toArray⟩ w (by rw [size_list]; exact hsm.1))
      have HP := Lib.hid (fun w => nbPut_any y w)
      have HCE : Hid (cellE false y = textB y.k ++ putE false y) := Lib.hid rfl
      have t0 : 0 < (textB y.k).length := textB_ne _
      have t1 : 0 < (putE false y).length := putE_ne _ _
      have t2 : 0 < (cellE false y).length := cellE_ne _ _
      have t3 : (textB y.k).length ≤ 256 := by rw [textB_len]; have := Nat.min_le_right y.k.length 255; omega
      have t4 : (putE false y).length ≤ 4000 := by rw [putE_len]; split; split <;> omega; omega
      obtain ⟨yk, yd, far, sz, pg⟩ := y
      simp only [valV, cstV] at c0 c1 c2 c3 c4 HT HP
      generalize (⟨yd.toArray⟩ : ByteArray) = sd at *
      generalize hsk : (⟨yk.toArray⟩ : ByteArray) = sk at *
      have hskl : sk.data.toList = yk := by rw [← hsk]
      try rw [hskl] at HT
      generalize textB yk = tb at *
      generalize putE false ⟨yk, yd, far, sz, pg⟩ = pb at *
      generalize cellE false ⟨yk, yd, far, sz, pg⟩ = cb at *
      obtain ⟨Av, cv, rfl, hcv1, hcv2⟩ := own_by Q3.out
      clear hkl hsk hskl hsm hcv1 hcv2
      obtain ⟨W, hW⟩ : ∃ W, wr.alloc (.cells #[.string sk, .string sd, .bool far, .int .i64 sz, .int .i64 pg] 54) = W := ⟨_, rfl⟩
      have HX := Lib.hid (show Has W wr.heap.size 54 #[.string sk, .string sd, .bool far, .int .i64 sz, .int .i64 pg] from hW ▸ Has.made wr _ _)
      have BW : Below wr.heap.size wr W := hW ▸ (Below.refl _ wr).alloc (Nat.le_refl _) _
      have hX0 : Has W.drew wr.heap.size 54 #[.string sk, .string sd, .bool far, .int .i64 sz, .int .i64 pg] := HX.out
      go_wp2
      try rw [hW]
      rename_i K hK
      refine wp_heldHQ (fun w' => Has w' wr.heap.size 54 #[.string sk, .string sd, .bool far, .int .i64 sz, .int .i64 pg]) hmx ?_
      refine wpAnyH_take (i := 0) (v := .slice Av k cv) rfl (by kernel_rfl) (by kernel_rfl) (by kernel_rfl) (fun _ _ _ h => h) (Or.inl ⟨by rfl, ?_⟩) hX0 ?_
      · intro w6 s1
        go_simp
      simp only [Act.put, List.setIfInBounds_toArray, List.set_cons_zero, List.set_cons_succ, List.getElem_toArray, List.getElem_cons_zero]
      refine wpAnyH_take (i := 1) (v := .pointer (some ⟨wr.heap.size, 0, none⟩)) rfl (by kernel_rfl) (by kernel_rfl) (by kernel_rfl) (fun _ _ _ h => h) (Or.inl ⟨by rfl, ?_⟩) hX0 ?_
      · intro w6 s1
        go_simp
      simp only [Act.put, List.setIfInBounds_toArray, List.set_cons_zero, List.set_cons_succ, List.getElem_toArray, List.getElem_cons_zero, List.getElem_cons_succ]
      refine wpAnyH_take (i := 2) (v := .string sk) rfl (by kernel_rfl) (by kernel_rfl) (by kernel_rfl) (fun _ _ _ h => h) (Or.inl ⟨by rfl, ?_⟩) hX0 ?_
      · intro w6 s1
        have d0 := s1.cell 0
        go_simp
      simp only [Act.put, List.setIfInBounds_toArray, List.set_cons_zero, List.set_cons_succ, List.getElem_toArray, List.getElem_cons_zero, List.getElem_cons_succ]
      refine wpAnyH_take (i := 4) (v := .iface 90 (.agg #[])) rfl (by kernel_rfl) (by kernel_rfl) (by kernel_rfl) (fun _ _ _ h => h) (Or.inl ⟨by rfl, ?_⟩) hX0 ?_
      · intro w6 s1
        go_simp
      simp only [Act.put, List.setIfInBounds_toArray, List.set_cons_zero, List.set_cons_succ, List.getElem_toArray, List.getElem_cons_zero, List.getElem_cons_succ]
      refine wpAnyH_take (i := 5) (v := .pointer (some ⟨wr.heap.size, 1, none⟩)) rfl (by kernel_rfl) (by kernel_rfl) (by kernel_rfl) (fun _ _ _ h => h) (Or.inl ⟨by rfl, ?_⟩) hX0 ?_
      · intro w6 s1
        go_simp
      simp only [Act.put, List.setIfInBounds_toArray, List.set_cons_zero, List.set_cons_succ, List.getElem_toArray, List.getElem_cons_zero, List.getElem_cons_succ]
      refine wpAnyH_take (i := 6) (v := .agg #[.string sd, .bool far, .int .i64 sz, .int .i64 pg]) rfl (by kernel_rfl) (by kernel_rfl) (by kernel_rfl) (fun _ _ _ h => h) (Or.inl ⟨by rfl, ?_⟩) hX0 ?_
      · intro w6 s1
        have d0 := s1.cell 1
        have d1 := s1.cell 2
        have d2 := s1.cell 3
        have d3 := s1.cell 4
        go_simp
      simp only [Act.put, List.setIfInBounds_toArray, List.set_cons_zero, List.set_cons_succ, List.getElem_toArray, List.getElem_cons_zero, List.getElem_cons_succ]
      refine wpAnyH_ready (rs := [3]) (by kernel_rfl) (by simp) ?_
      refine AllReadyH.cons rfl (fun K5 hK5 => ?_) AllReadyH.nil
      go_simp
      go_at_call 26
      refine (HT.out _).mono ?_
      rintro e2 w2 ⟨A2, c2, rfl, g1, g2, g3, g4⟩
      have B2 : Below W.heap.size W w2 := (Below.refl W.heap.size W).drew.trans g4
      have R2 : RowH W.heap.size w2 ⟨A2, tb.length, c2, tb⟩ := ⟨rfl, t0, g3, g1, g2⟩
      have X2 := HX.out.below B2 HX.out.lt
      clear g1 g2 g3 g4
      refine hK5.out _ _ X2 (fun _ => ?_)
      clear hK5 K5
      refine wpAnyH_ready (rs := [7]) (by kernel_rfl) (by simp) ?_
      refine AllReadyH.cons rfl (fun K5 hK5 => ?_) AllReadyH.nil
      go_simp
      go_invoke
      go_simp
      go_at_call 100
      refine (HP.out _).mono ?_
      rintro e3 w3 ⟨A3, c3, rfl, g1, g2, g3, g4⟩
      have B3 : Below W.heap.size W w3 := below_step B2 g4
      have R3 : RowH W.heap.size w3 ⟨A3, pb.length, c3, pb⟩ := ⟨rfl, t1, g3.low B2.size, g1, g2⟩
      have R23 := R2.below g4
      have X3 := X2.below g4 X2.lt
      clear g1 g2 g3 g4
      refine hK5.out _ _ X3 (fun _ => ?_)
      clear hK5 K5
      refine wpAnyH_ready (rs := [8]) (by kernel_rfl) (by simp) ?_
      refine AllReadyH.cons rfl (fun K5 hK5 => ?_) AllReadyH.nil
      go_simp
      obtain ⟨w4, hw4⟩ : ∃ w4, w3.alloc (.cells #[.slice A2 tb.length c2, .slice A3 pb.length c3] 31) = w4 := ⟨_, rfl⟩
      try rw [hw4]
      have X4b : Below w3.heap.size w3 w4 := hw4 ▸ (Below.refl _ w3).alloc (Nat.le_refl _) _
      have B4 : Below W.heap.size W w4 := below_step B3 X4b
      have HC : Has w4 w3.heap.size 31 #[.slice A2 tb.length c2, .slice A3 pb.length c3] := hw4 ▸ Has.made w3 _ _
      have HQ := Lib.hid (cells_of (q := [⟨A2, tb.length, c2, tb⟩, ⟨A3, pb.length, c3, pb⟩]) (by simp) HC (by intro x hx; simp only [List.mem_cons, List.mem_nil_iff, or_false] at hx; rcases hx with rfl | rfl; exact (R23.below X4b).arg; exact (R3.below X4b).arg))
      have X4 := X3.below X4b X3.lt
      have HFL : Hid (flatH [⟨A2, tb.length, c2, tb⟩, ⟨A3, pb.length, c3, pb⟩] = cb) := Lib.hid (by rw [HCE.out]; simp [flatH])
      clear HC
      refine hK5.out _ _ X4 (fun _ => ?_)
      clear hK5 K5
      refine wpAnyH_ready (rs := [9]) (by kernel_rfl) (by simp) ?_
      refine AllReadyH.cons rfl (fun K5 hK5 => ?_) AllReadyH.nil
      go_simp
      go_at_call 25
      try rw [hw4]
      refine (concatB_any _ 2 2 _ w4 HQ.out (by rw [HFL.out, HCE.out, List.length_append]; omega) (by decide)).mono ?_
      rw [HFL.out]
      rintro e5 w5 ⟨A5, c5, rfl, g1, g2, g3, g4⟩
      have B5 : Below W.heap.size W w5 := below_step B4 g4
      have R5 : RowH w.heap.size w5 ⟨A5, cb.length, c5, cb⟩ := ⟨rfl, t2, g3.low (by have := B4.size; have := BW.size; have := Q4.out.size; omega), g1, g2⟩
      have X5 := X4.below g4 X4.lt
      clear g1 g2 g3 g4
      refine hK5.out _ _ X5 (fun _ => ?_)
      clear hK5 K5
      refine wpAnyH_ready (rs := [10]) (by kernel_rfl) (by simp) ?_
      refine AllReadyH.cons rfl (fun K5 hK5 => ?_) AllReadyH.nil
      go_simp
      obtain ⟨w6, hw6⟩ : ∃ w6, w5.alloc (.cells #[.slice A5 cb.length c5] 31) = w6 := ⟨_, rfl⟩
      try rw [hw6]
      have X6b : Below w5.heap.size w5 w6 := hw6 ▸ (Below.refl _ w5).alloc (Nat.le_refl _) _
      have B6 : Below W.heap.size W w6 := below_step B5 X6b
      have X6 := X5.below X6b X5.lt
      have BR : Below wr.heap.size wr w6 := below_step BW B6
      have BT : Below w.heap.size w w6 := below_step Q4.out BR
      have O6 := ceOwnBelow Q3.out BR
      have LS := hw6 ▸ lies_one w5 (.slice A5 cb.length c5) 31
      have R6 := R5.below X6b
      refine hK5.out _ _ X6 (fun _ => ?_)
      clear hK5 K5
      refine wpAnyH_ready (rs := [11]) (by kernel_rfl) (by simp) ?_
      refine AllReadyH.cons rfl (fun K5 hK5 => ?_) AllReadyH.nil
      refine step_append_lies _ rfl _ _ 40 rfl w.heap.size 31 j0 _ 1 24 Tryd.underlying40 hj jz0 jz1 jz2 rfl (by decide) _ k _ rfl O6 ⟨w5.heap.size, 0, none⟩ 1 1 [.slice A5 cb.length c5] rfl rfl LS (by intro u hu; simp at hu; subst hu; rfl) (by decide) (by unfold maxLen; omega) (by omega) BT.size _ rfl ?_
      intro g cap w7 h7 h8 h9 h10
      have B7 := Lib.hid (below_own8 BT h8 O6 BT.size)
      have X7 := X6.kept_own O6 (by decide) h8
      have R7 := Lib.hid (R6.own O6 h8)
      have K7 := Lib.hid (fun x hx => ((Q2.out x hx).below BR).own O6 h8)
      have O7 := Lib.hid h7
      clear h7 h8 h9 h10
      refine hK5.out _ _ X7 (fun _ => ?_)
      clear hK5 K5
      simp only [Act.put, List.setIfInBounds_toArray, List.set_cons_zero, List.set_cons_succ, List.getElem_toArray, List.getElem_cons_zero, List.getElem_cons_succ]
      refine wpAnyH_ready (rs := [12]) (by kernel_rfl) (by simp) ?_
      refine AllReadyH.cons rfl (fun K5 hK5 => ?_) AllReadyH.nil
      go_simp
      refine hK5.out _ _ X7 (fun _ => ?_)
      clear hK5 K5
      refine wpAnyH_done (by kernel_rfl) ?_ _
      refine hK _ _ ?_
      clear X2 X3 X4 X5 X6 X7 B2 B3 B4 B5 B6
      go_wp2
      go_roundw
      case rel =>
        refine ⟨k + 1, by omega, by go_num, q ++ [⟨A5, cb.length, c5, cb⟩], ?_, ?_, ?_, B7.out⟩
        · rw [lq_snoc, Q1.out, NXC.out]
        · intro x hx
          rcases List.mem_append.1 hx with hx | hx
          · exact K7.out x hx
          · obtain rfl := List.mem_singleton.1 hx
            exact R7.out
        · rw [hd_snoc]
          exact O7.out
      case measure => simp [intOf]; omega
    · obtain rfl : k = n := by omega
      have e : l.take k = l := List.take_of_length_le (by rw [← HL.out]; exact Nat.le_refl _)
      rw [e] at hq1
      obtain ⟨A2, c2, rfl, hC⟩ := CellsA.of_own hq3 (fun x hx => (hq2 x hx).arg)
      have HC := Lib.hid hC
      have HQ := Lib.hid hq1
      clear hq1 hq2 hq3 hq4 hC
      obtain ⟨w3, hw3⟩ : ∃ w3 : World, w3 = wr := ⟨_, rfl⟩
      subst hw3
      go_wp2
      go_ret
      exact ⟨A2, k, c2, q, rfl, HC.out, HQ.out, Q4.out⟩

theorem nCells_any (leaf : Bool) (A : Option Addr) (n c : Nat) (l : List En) (w : World) (h : NodA w A n c l) (hn : n ≤ 1000000) (hs : ∀ e ∈ l, e.k.length ≤ 3000 ∧ e.d.length ≤ 3000) :
    Calls Tryd.prog 15 #[.agg #[.bool leaf, .slice A n c]] w (CutEnd w (cellsE leaf l)) := by
  cases leaf
  · exact nCells_false A n c l w h hn hs
  · exact nCells_true A n c l w h hn hs

end Go.Proofs.YtnponjdnjkegmaaDoor
end

section
namespace Go.Proofs.YtnponjdnjkegmaaDoor
open Go.RowKit
set_option linter.unusedVariables false

section
variable {P : Program} {ops : Array Oper} {Q : Exit → Act → World → Prop} {md : Region.Mode} {C : World → Prop} {k : Nat}
def wpAnyK (P : Program) (md : Region.Mode) (ops : Array Oper) (Q : Exit → Act → World → Prop) (C : World → Prop) (k : Nat) : Nat → Array Bool → Act → World → Prop
  | 0, listed, a, w => Region.ready md ops listed = [] ∧ Q .normal a w
  | fuel + 1, listed, a, w =>
    (Region.ready md ops listed = [] → Q .normal a w) ∧
    ∀ i ∈ Region.ready md ops listed, wpOp P ops Q i (fun a' w' => ((listed.setIfInBounds i true).getD k false = true ∨ C w') ∧ wpAnyK P md ops Q C k fuel (listed.setIfInBounds i true) a' w') a w
theorem wpAny_of_K : ∀ (fuel : Nat) (listed : Array Bool) (a : Act) (w : World), wpAnyK P md ops Q C k fuel listed a w → wpAny P md ops Q fuel listed a w
  | 0, _, _, _, h => h
  | fuel + 1, _, _, _, h => ⟨h.1, fun i hi => wpOp_mono (fun a' w' h' => wpAny_of_K fuel _ a' w' h'.2) (h.2 i hi)⟩
theorem ready_waits {i : Nat} {oj : Oper} {listed : Array Bool} (hr : i ∈ Region.ready md ops listed) (hall : ∀ e ∈ oj.after, Region.binds md e = true → listed.getD e.on false = true) : ∀ e ∈ oj.after, Region.binds md e = true → e.on ≠ i := fun e he hb heq => by
  have h1 := hall e he hb
  have h0 := (mem_ready.1 hr).1
  rw [heq] at h1
  rcases Nat.lt_or_ge i listed.size with h' | h'
  · simp [h'] at h0 h1; rw [h0] at h1; cases h1
  · simp [Array.getElem?_eq_none h'] at h1
theorem wpAnyK_first {i : Nat} {oi : Oper} {v : Value} (hi : ops[i]? = some oi) (hsel : ∀ (j : Nat) (o : Oper) cs b, ops[j]? = some o → o.op ≠ .select cs b)
    (hQ : ∀ c a w, Q (.panic c) (a.put oi.dst v) w → Q (.panic c) a w) (hk : Region.waitsFor md ops k i = true) (hki : k ≠ i) :
    ∀ (fuel : Nat) (listed : Array Bool) (a : Act) (w : World),
      (∀ j oj, ops[j]? = some oj → j ≠ i → listed.getD j true = false → (∀ e ∈ oj.after, Region.binds md e = true → e.on ≠ i) → oi.apart ops oj = true) →
      i ∈ Region.ready md ops listed → listed.getD k false = false → YieldsIf P ops C oi v a → C w →
      wpAnyK P md ops Q C k fuel (listed.setIfInBounds i true) (a.put oi.dst v) w → wpAnyK P md ops Q C k (fuel + 1) listed a w := by
  intro fuel
  induction fuel with
  | zero =>
    intro listed a w _ hr hkl hy hS H
    refine ⟨fun h => (by rw [h] at hr; cases hr), fun j hj => ?_⟩
    by_cases hji : j = i
    · subst hji; exact hy.wpOp hi hS ⟨.inr hS, H⟩
    · have := ready_mono hj hji
      rw [H.1] at this
      cases this
  | succ fuel ih =>
    intro listed a w hfree hr hkl hy hS H
    refine ⟨fun h => (by rw [h] at hr; cases hr), fun j hj => ?_⟩
    by_cases hji : j = i
    · subst hji; exact hy.wpOp hi hS ⟨.inr hS, H⟩
    · have h1 := H.2 j (ready_mono hj hji)
      obtain ⟨hjun, oj, hoj, hall⟩ := mem_ready.1 hj
      have hnot := ready_waits (oj := oj) hr hall
      have hjk : k ≠ j := fun e => by
        subst e
        obtain ⟨ok, hok, e, he, hb, hon⟩ := Region.waitsFor_spec hk
        rw [hoj] at hok
        injection hok with hok
        subst hok
        exact hnot e he hb hon
      have h2 := wpOp_putIf hoj (hfree j oj hoj hji hjun hnot) (fun cs b => hsel i oi cs b hi) (fun cs b => hsel j oj cs b hoj) hQ hy h1
      have hfree' : ∀ k ok, ops[k]? = some ok → k ≠ i → (listed.setIfInBounds j true).getD k true = false →
          (∀ e ∈ ok.after, Region.binds md e = true → e.on ≠ i) → oi.apart ops ok = true := fun k ok hk hki hun hno => by
        refine hfree k ok hk hki ?_ hno
        by_cases hjk : j = k
        · subst hjk; exact hjun
        · rw [getD_set_ne true hjk] at hun; exact hun
      have hkl' : (listed.setIfInBounds j true).getD k false = false := by rw [getD_set_ne false (Ne.symm hjk)]; exact hkl
      refine wpOp_mono (fun a' w' h3 => ?_) h2
      have hC' : C w' := by
        rcases h3.2.1 with h | h
        · rw [getD_set_ne false (Ne.symm hjk), getD_set_ne false (Ne.symm hki), hkl] at h
          cases h
        · exact h
      refine ⟨.inr hC', ih (listed.setIfInBounds j true) a' w' hfree' (ready_mono hr (Ne.symm hji)) hkl' h3.1 hC' ?_⟩
      rw [Array.setIfInBounds_comm _ _ hji]
      exact h3.2.2
theorem wpAnyK_firstP {i : Nat} {oi : Oper} {v : Value} (hi : ops[i]? = some oi) (hsel : ∀ (j : Nat) (o : Oper) cs b, ops[j]? = some o → o.op ≠ .select cs b)
    (hQ : ∀ c a w, Q (.panic c) (a.put oi.dst v) w → Q (.panic c) a w) (hki : k ≠ i) :
    ∀ (fuel : Nat) (listed : Array Bool) (a : Act) (w : World),
      (∀ j oj, ops[j]? = some oj → j ≠ i → listed.getD j true = false → (∀ e ∈ oj.after, Region.binds md e = true → e.on ≠ i) → oi.apart ops oj = true) →
      i ∈ Region.ready md ops listed → (listed.getD k false = true ∨ C w) → YieldsIf P ops (fun _ => True) oi v a →
      wpAnyK P md ops Q C k fuel (listed.setIfInBounds i true) (a.put oi.dst v) w → wpAnyK P md ops Q C k (fuel + 1) listed a w := by
  intro fuel
  induction fuel with
  | zero =>
    intro listed a w _ hr hS hy H
    refine ⟨fun h => (by rw [h] at hr; cases hr), fun j hj => ?_⟩
    by_cases hji : j = i
    · subst hji; exact hy.wpOp hi trivial ⟨hS.imp (fun h => by rw [getD_set_ne false (Ne.symm hki)]; exact h) id, H⟩
    · have := ready_mono hj hji
      rw [H.1] at this
      cases this
  | succ fuel ih =>
    intro listed a w hfree hr hS hy H
    refine ⟨fun h => (by rw [h] at hr; cases hr), fun j hj => ?_⟩
    by_cases hji : j = i
    · subst hji; exact hy.wpOp hi trivial ⟨hS.imp (fun h => by rw [getD_set_ne false (Ne.symm hki)]; exact h) id, H⟩
    · have h1 := H.2 j (ready_mono hj hji)
      obtain ⟨hjun, oj, hoj, hall⟩ := mem_ready.1 hj
      have hnot := ready_waits (oj := oj) hr hall
      have h2 := wpOp_putIf hoj (hfree j oj hoj hji hjun hnot) (fun cs b => hsel i oi cs b hi) (fun cs b => hsel j oj cs b hoj) hQ hy h1
      have hfree' : ∀ k ok, ops[k]? = some ok → k ≠ i → (listed.setIfInBounds j true).getD k true = false →
          (∀ e ∈ ok.after, Region.binds md e = true → e.on ≠ i) → oi.apart ops ok = true := fun k ok hk hki hun hno => by
        refine hfree k ok hk hki ?_ hno
        by_cases hjk : j = k
        · subst hjk; exact hjun
        · rw [getD_set_ne true hjk] at hun; exact hun
      refine wpOp_mono (fun a' w' h3 => ?_) h2
      have hC' : (listed.setIfInBounds j true).getD k false = true ∨ C w' := by
        refine h3.2.1.imp (fun h => ?_) id
        rw [Array.setIfInBounds_comm _ _ (Ne.symm hji), getD_set_ne false (Ne.symm hki)] at h
        exact h
      refine ⟨hC', ih (listed.setIfInBounds j true) a' w' hfree' (ready_mono hr (Ne.symm hji)) hC' h3.1 ?_⟩
      rw [Array.setIfInBounds_comm _ _ hji]
      exact h3.2.2
theorem wpAnyK_take {i : Nat} {oi : Oper} {v : Value} {fuel : Nat} {listed : Array Bool} {a : Act} {w : World} (hi : ops[i]? = some oi)
    (hs : Region.noSelect ops = true) (hf : Region.free md ops listed i = true) (hr : (Region.ready md ops listed).contains i = true) (hk : Region.waitsFor md ops k i = true) (hki : k ≠ i) (hkl : listed.getD k false = false)
    (hQ : ∀ c a w, Q (.panic c) (a.put oi.dst v) w → Q (.panic c) a w) (hy : YieldsIf P ops C oi v a) (hS : C w)
    (h : wpAnyK P md ops Q C k fuel (listed.setIfInBounds i true) (a.put oi.dst v) w) : wpAnyK P md ops Q C k (fuel + 1) listed a w :=
  wpAnyK_first hi (Region.noSelect_spec hs) hQ hk hki fuel listed a w (Region.free_spec hi hf) (by simpa using hr) hkl hy hS h
theorem wpAnyK_pure {i : Nat} {oi : Oper} {v : Value} {fuel : Nat} {listed : Array Bool} {a : Act} {w : World} (hi : ops[i]? = some oi)
    (hs : Region.noSelect ops = true) (hf : Region.free md ops listed i = true) (hr : (Region.ready md ops listed).contains i = true) (hki : k ≠ i)
    (hQ : ∀ c a w, Q (.panic c) (a.put oi.dst v) w → Q (.panic c) a w) (hy : YieldsIf P ops (fun _ => True) oi v a) (hS : listed.getD k false = true ∨ C w)
    (h : wpAnyK P md ops Q C k fuel (listed.setIfInBounds i true) (a.put oi.dst v) w) : wpAnyK P md ops Q C k (fuel + 1) listed a w :=
  wpAnyK_firstP hi (Region.noSelect_spec hs) hQ hki fuel listed a w (Region.free_spec hi hf) (by simpa using hr) hS hy h
theorem wpAnyK_one {i : Nat} {o : Oper} {fuel : Nat} {listed : Array Bool} {a : Act} {w : World} (hr : Region.ready md ops listed = [i]) (ho : ops[i]? = some o)
    (h : ∀ K' : Act → World → Prop, Shut (∀ a w, ((listed.setIfInBounds i true).getD k false = true ∨ C w) → wpAnyK P md ops Q C k fuel (listed.setIfInBounds i true) a w → K' a w) → if Region.wanted o (yielded ops a.tmps) = true then Oper.wp P o a w K' Q else K' (a.put o.dst undef) w) :
    wpAnyK P md ops Q C k (fuel + 1) listed a w :=
  ⟨fun h0 => (by rw [hr] at h0; cases h0), fun j hj => by
    rw [hr] at hj
    obtain rfl : j = i := by simpa using hj
    exact wpOp_step ho (fun K' hK => h K' (fun a w hS hW => hK a w ⟨hS, hW⟩))⟩
theorem wpAnyK_done {listed : Array Bool} {a : Act} {w : World} (hr : Region.ready md ops listed = []) (h : Q .normal a w) :
    ∀ fuel, wpAnyK P md ops Q C k fuel listed a w
  | 0 => ⟨hr, h⟩
  | _ + 1 => ⟨fun _ => h, by rw [hr]; simp⟩
theorem wp_heldQ {id : Nat} {a : Act} {w : World} (C : World → Prop) (k : Nat) (hm : P.follows .mixedOrders = true)
    (h : wpAnyK P .any ops (Runs (Q .normal)) C k ops.size (Array.replicate ops.size false) a w.drew) : (Code.region id ops true).wp P Q a w :=
  wp_mono (Q := Runs (Q .normal)) (wp_region_any hm (wpAny_of_K _ _ _ _ h)) (fun e a w h => by cases e <;> first | exact h | exact False.elim h)
end

end Go.Proofs.YtnponjdnjkegmaaDoor
end
