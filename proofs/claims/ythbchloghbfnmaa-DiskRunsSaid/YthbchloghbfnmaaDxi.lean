/- The document's regions of layer 6: New: contract, no statement. -/
import Derived.Test.YthbchloghbfnmaaDxh
namespace Go.Proofs.Ythbchloghbfnmaa
open Go.RowKit
set_option linter.unusedVariables false

theorem zero_cells : madeCells #[.int .u8 0] 128 = (zeros.map byteV).toArray := by
  rw [← half_zero 128 0]
  rfl
theorem pagesL_fresh (m : Nat) : (pagesL (fresh6 m).syn m).map txtV = List.replicate m (txtV zeros) := by
  apply List.ext_getElem?
  intro i
  by_cases h : i < m
  · rw [List.getElem?_map, pagesL_at _ h, List.getElem?_replicate, if_pos h]
    rfl
  · rw [List.getElem?_eq_none (by simp [pagesL_len]; omega), List.getElem?_eq_none (by simp; omega)]
theorem nw_next {wo wr w3 : World} {vA : Option Addr} {j vk g cap : Nat} {za ca : Array Value} {xs ys : List Value} {c1 c2 c3 : Value} (hB : Below wo.heap.size wo wr) (hx : Has wr wo.heap.size 53 #[.slice vA j vk, c1, c2, c3])
    (ho : ((wr.drew.alloc (.cells za 5)).alloc (.cells ca 9)).ownsRow (wo.heap.size + 1) 9 1 (.slice vA j vk) j xs)
    (h7 : w3.ownsRow (wo.heap.size + 1) 9 1 (.slice (some ⟨g, 0, none⟩) (j + 1) cap) (j + 1) ys) (h8 : ((wr.drew.alloc (.cells za 5)).alloc (.cells ca 9)).grownBy w3 (Value.slice vA j vk).ownBlock) :
    ((∃ u0, w3.cell? ⟨wo.heap.size, 0, none⟩ = some u0) ∧ w3.frozen? ⟨wo.heap.size, 0, none⟩ = false) ∧ Has (w3.setCell ⟨wo.heap.size, 0, none⟩ (.slice (some ⟨g, 0, none⟩) (j + 1) cap)) wo.heap.size 53 #[.slice (some ⟨g, 0, none⟩) (j + 1) cap, c1, c2, c3] ∧
      (w3.setCell ⟨wo.heap.size, 0, none⟩ (.slice (some ⟨g, 0, none⟩) (j + 1) cap)).ownsRow (wo.heap.size + 1) 9 1 (.slice (some ⟨g, 0, none⟩) (j + 1) cap) (j + 1) ys ∧ Below wo.heap.size wo (w3.setCell ⟨wo.heap.size, 0, none⟩ (.slice (some ⟨g, 0, none⟩) (j + 1) cap)) := by
  have hx2 : Has ((wr.drew.alloc (.cells za 5)).alloc (.cells ca 9)) wo.heap.size 53 #[.slice vA j vk, c1, c2, c3] := (hx.drew.alloc _).alloc _
  have hx3 := hx2.grown h8 (fun e => by
    have := own_min ho _ e.symm
    omega)
  have hs := hB.size
  have hb2 : Below wo.heap.size wo ((wr.drew.alloc (.cells za 5)).alloc (.cells ca 9)) := (hB.drew.alloc hs _).alloc (by have := hs; simp; omega) _
  have hb3 := hb2.grown h8 hb2.size (fun k hk => by have := own_min ho _ hk; omega)
  refine ⟨⟨⟨_, hx3.cell 0⟩, hx3.free 0⟩, ?_, own_keepG h7 (fun g hg _ => setCell_heap_other w3 ⟨wo.heap.size, 0, none⟩ _ g (by show g ≠ wo.heap.size; omega)), hb3.setCell (p := ⟨wo.heap.size, 0, none⟩) (Nat.le_refl _) _⟩
  have := hx3.store 0 (.slice (some ⟨g, 0, none⟩) (j + 1) cap)
  simpa using this
theorem step_make {P : Program} {ops : Array Oper} {o : Oper} {a : Act} {w w' : World} {K : Act → World → Prop} {Q : Exit → Act → World → Prop} {E : Prop} (hgd : o.guard = none) (t : TypeId) (x y : Operand) (ho : o.op = .makeSlice t x y) (p q : Value) (hx : a.eval x = p) (hy : a.eval y = q) (u : Value)
    (hrun : (Instr.makeSlice t p q).run P w = .ok u w') (h : K (a.put o.dst u) w') : if Region.wanted o (yielded ops a.tmps) = true then Oper.wp P o a w K Q else E := by
  have hw : Region.wanted o (yielded ops a.tmps) = true := by simp [Region.wanted, hgd]
  rw [if_pos hw]
  unfold Oper.wp execOp
  simp only [ho, hx, hy, Sem.run_bind, hrun, Result.andThen_ok, Sem.run_pure]
  exact h
theorem step_conv {P : Program} {ops : Array Oper} {o : Oper} {a : Act} {w w' : World} {K : Act → World → Prop} {Q : Exit → Act → World → Prop} {E : Prop} (hgd : o.guard = none) (t t2 : TypeId) (x : Operand) (ho : o.op = .convert t t2 x) (p : Value) (hx : a.eval x = p) (u : Value)
    (hrun : (convert t t2 p).run P w = .ok u w') (h : K (a.put o.dst u) w') : if Region.wanted o (yielded ops a.tmps) = true then Oper.wp P o a w K Q else E := by
  have hw : Region.wanted o (yielded ops a.tmps) = true := by simp [Region.wanted, hgd]
  rw [if_pos hw]
  unfold Oper.wp execOp
  simp only [ho, hx, Sem.run_bind, hrun, Result.andThen_ok, Sem.run_pure]
  exact h
/-- What New tells. -/
def NwEnd (T : Tg) (ls : List Int) (n : Nat) (w : World) (e : Ending) (w' : World) : Prop :=
  Below w.heap.size w w' ∧ if newB ls then ∃ A' c' gs', e = .returned (.tuple #[.slice A' n c', .int .i64 0]) ∧ GA w' T A' n c' gs' ∧ rgs gs' = ls.map (fun x => fresh6 x.toNat) else e = .returned (.tuple #[.slice none 0 0, .int .i64 1])
section
variable {w : World} {T : Tg}
set_option maxRecDepth 100000 in
set_option maxHeartbeats 8000000 in
theorem r6New_any (A : Option Addr) (n c : Nat) (ls : List Int) (h : Ints6 w A n ls) (hn : n ≤ 1000) (hT : ∀ g, w.heap.size ≤ g → T g = none) :
    Calls Try.prog 11 #[.slice A n c] w (NwEnd T ls n w) := by
  obtain ⟨i0, hi, hz0, hz1, hz2⟩ := info_parts info_G6
  obtain ⟨s0, hs, hsz0, hsz1, hsz2⟩ := info_parts str_info
  have HH := Lib.hid h
  have HT := Lib.hid hT
  have HLEN := Lib.hid h.len
  have hmx : Try.prog.follows .mixedOrders = true := by kernel_rfl
  clear h hT
  go_enter Try.func11, Try.ntmps11
  go_wp2
  go_loopw [4, 5] (fun v i wr => ∃ (k : Nat) (gs' : List Gx), k ≤ n ∧ i = .int .i64 (k : Int) ∧ Cr w T (ls.map (fun x => fresh6 x.toNat)) k v gs' wr ∧ ((ls.take k).all szB = true)) (fun _ i _ => n - (intOf i).toNat)
  case atStart => exact ⟨0, [], Nat.zero_le _, rfl, Cr.start w T _, by simp⟩
  case round =>
    obtain ⟨k, gs', hk0, rfl, hr, hall⟩ := hrel
    have HR := Lib.hid hr
    have HALL := Lib.hid hall
    clear hr hall
    by_cases hlt : k < n
    · obtain ⟨x, hx⟩ : ∃ x, ls[k]? = some x := ⟨_, List.getElem?_eq_getElem (by rw [← HLEN.out]; exact hlt)⟩
      obtain ⟨b, off, rfl, hc0⟩ := HH.out.at_ hx
      have hc := cellB hc0 HR.out.bel
      have i1 : (0 : Int) ≤ (k : Int) := by omega
      have i2 : (k : Int) < (n : Int) := by omega
      cases hsz : szB x with
      | false =>
        have hnb : newB ls = false := by
          unfold newB
          rw [show ls.all szB = false from by
            rw [Bool.eq_false_iff]
            intro hq
            rw [List.all_eq_true] at hq
            have := hq x (List.mem_of_getElem? hx)
            rw [hsz] at this
            cases this]
          simp
        have HNB := Lib.hid hnb
        unfold szB at hsz
        by_cases h1 : x < 1
        · clear hsz hx hnb hc0
          go_wp2
          go_ret2
          refine ⟨HR.out.bel, ?_⟩
          rw [HNB.out]
          rfl
        · have h2 : 1000 < x := by
            simp at hsz
            omega
          clear hsz hx hnb hc0
          go_wp2
          go_ret2
          refine ⟨HR.out.bel, ?_⟩
          rw [HNB.out]
          rfl
      | true =>
        have hsx := hsz
        unfold szB at hsz
        simp at hsz
        obtain ⟨m, rfl⟩ : ∃ m : Nat, x = (m : Int) := ⟨x.toNat, by omega⟩
        have HALL2 : Hid ((ls.take (k + 1)).all szB = true) := Lib.hid (by
          rw [List.take_add_one, hx, List.all_append, HALL.out]
          simpa using hsx)
        have HRS : Hid ((ls.map (fun x => fresh6 x.toNat))[k]? = some (fresh6 m)) := Lib.hid (by rw [List.getElem?_map, hx]; rfl)
        have n1 : ¬ (m : Int) < 1 := by omega
        have n2 : ¬ (1000 : Int) < (m : Int) := by omega
        have m1 : 1 ≤ m := by omega
        have m2 : m ≤ 1000 := by omega
        have HOK := Lib.hid (fresh6_ok m1 m2)
        obtain ⟨wo, hwo⟩ : ∃ wo : World, wo = wr := ⟨_, rfl⟩
        subst hwo
        have hst : Has (wo.alloc (.cells #[.slice none 0 0, .slice none 0 0, .int .i64 (-1), .bool false] 53)) wo.heap.size 53 #[.slice none 0 0, .slice none 0 0, .int .i64 (-1), .bool false] := Has.made wo _ _
        have HST := Lib.hid hst
        have HBW : Hid (Below wo.heap.size wo (wo.alloc (.cells #[.slice none 0 0, .slice none 0 0, .int .i64 (-1), .bool false] 53))) := Lib.hid ((Below.refl _ wo).alloc (Nat.le_refl _) _)
        clear hst hsx hx hsz
        go_wp2
        go_loopw [7] (fun i wr => ∃ (j : Nat) (vA : Option Addr) (vk : Nat), j ≤ m ∧ i = .int .i64 (j : Int) ∧ Has wr wo.heap.size 53 #[.slice vA j vk, .slice none 0 0, .int .i64 (-1), .bool false] ∧ wr.ownsRow (wo.heap.size + 1) 9 1 (.slice vA j vk) j (List.replicate j (txtV zeros)) ∧ Below wo.heap.size wo wr) (fun i _ => m - (intOf i).toNat)
        case atStart => exact ⟨0, none, 0, Nat.zero_le _, rfl, HST.out, World.ownsRow_nil _ _ _ _, HBW.out⟩
        case round =>
          obtain ⟨j, vA, vk, hj0, rfl, hx, ho, hb⟩ := hrel
          have HX := Lib.hid hx
          have HO1 := Lib.hid ho
          have HB := Lib.hid hb
          have e0 := cellB (cellB hc (Below.refl _ wo)) hb
          by_cases hjm : j < m
          · have hmk := make_bytes6 128 (by omega) wr.drew
            rw [zero_cells] at hmk
            have hcv := str_reads (n := 128) (c := 128) (l := zeros) (w := wr.drew.alloc (.cells (zeros.map byteV).toArray 5)) (A := some ⟨wr.heap.size, 0, none⟩) rfl (fun _ => ⟨wr.heap.size, 0, rfl, fun q u hq => by
              have := (Has.made wr.drew 5 (zeros.map byteV).toArray).cell (0 + q)
              exact this.trans (by simpa using hq)⟩)
            have HREP : Hid (List.replicate (j + 1) (txtV zeros) = List.replicate j (txtV zeros) ++ [.string ⟨zeros.toArray⟩]) := Lib.hid List.replicate_succ'
            generalize (zeros.map byteV).toArray = za at hmk hcv
            obtain ⟨zs, hzs⟩ : ∃ zs : ByteArray, (⟨zeros.toArray⟩ : ByteArray) = zs := ⟨_, rfl⟩
            rw [hzs] at hcv HREP
            have hC1 : (fun w' : World => w'.cell? ⟨wo.heap.size, 0, none⟩ = some (.slice vA j vk)) wr.drew := hx.cell 0
            have hC2 : (fun w' : World => w'.cell? ⟨wo.heap.size, 0, none⟩ = some (.slice vA j vk)) (wr.drew.alloc (.cells za 5)) := (hx.drew.alloc (.cells za 5)).cell 0
            have hC3 : (fun w' : World => w'.cell? ⟨wo.heap.size, 0, none⟩ = some (.slice vA j vk)) ((wr.drew.alloc (.cells za 5)).alloc (.cells #[.string zs] 9)) := ((hx.drew.alloc (.cells za 5)).alloc (.cells #[.string zs] 9)).cell 0
            have HO : Hid (((wr.drew.alloc (.cells za 5)).alloc (.cells #[.string zs] 9)).ownsRow (wo.heap.size + 1) 9 1 (.slice vA j vk) j (List.replicate j (txtV zeros))) := Lib.hid (((own_keepG (w' := wr.drew) ho (fun _ _ _ => rfl)).alloc _).alloc _)
            have HCL : Hid (∀ q u, [Value.string zs][q]? = some u → ((wr.drew.alloc (.cells za 5)).alloc (.cells #[.string zs] 9)).cell? ((⟨wr.heap.size + 1, 0, none⟩ : Addr).add q) = some u) := Lib.hid (by
              have := cell_one_new (wr.drew.alloc (.cells za 5)) (.string zs) 9
              simpa using this)
            have HONE : Hid (∀ u ∈ ([.string zs] : List Value), u.oneCell' = true) := Lib.hid (by intro u hu; simp at hu; subst hu; rfl)
            have HBA : Hid (wo.heap.size + 1 ≤ ((wr.drew.alloc (.cells za 5)).alloc (.cells #[.string zs] 9)).heap.size) := Lib.hid (by have := hb.size; simp; omega)
            clear hx ho hb hzs
            go_wp2
            rename_i K hK
            refine wp_heldQ (fun w' : World => w'.cell? ⟨wo.heap.size, 0, none⟩ = some (.slice vA j vk)) 5 hmx ?_
            refine wpAnyK_pure (i := 0) (v := .pointer (some ⟨wo.heap.size, 0, none⟩)) rfl (by kernel_rfl) (by kernel_rfl) (by kernel_rfl) (by decide) (fun _ _ _ h => h) (Or.inl ⟨by rfl, ?_⟩) (.inr hC1) ?_
            · intro w6 _
              go_simp
            simp only [Act.put, List.setIfInBounds_toArray, List.set_cons_zero, List.set_cons_succ, List.getElem_toArray, List.getElem_cons_zero]
            refine wpAnyK_take (i := 1) (v := .slice vA j vk) rfl (by kernel_rfl) (by kernel_rfl) (by kernel_rfl) (by kernel_rfl) (by decide) (by kernel_rfl) (fun _ _ _ h => h) (Or.inl ⟨by rfl, ?_⟩) hC1 ?_
            · rintro w6 c1
              go_simp
            simp only [Act.put, List.setIfInBounds_toArray, List.set_cons_zero, List.set_cons_succ, List.getElem_toArray, List.getElem_cons_zero, List.getElem_cons_succ]
            refine wpAnyK_one (i := 2) (by kernel_rfl) rfl (fun K5 hK5 => ?_)
            refine step_make rfl 37 _ _ rfl _ _ rfl rfl _ hmk ?_
            refine hK5.out _ _ (.inr hC2) ?_
            clear hK5 K5
            simp only [Act.put, List.setIfInBounds_toArray, List.set_cons_zero, List.set_cons_succ, List.getElem_toArray, List.getElem_cons_zero, List.getElem_cons_succ]
            refine wpAnyK_one (i := 3) (by kernel_rfl) rfl (fun K5 hK5 => ?_)
            refine step_conv rfl 37 9 _ rfl _ rfl _ hcv ?_
            refine hK5.out _ _ (.inr hC2) ?_
            clear hK5 K5
            simp only [Act.put, List.setIfInBounds_toArray, List.set_cons_zero, List.set_cons_succ, List.getElem_toArray, List.getElem_cons_zero, List.getElem_cons_succ]
            refine wpAnyK_one (i := 4) (by kernel_rfl) rfl (fun K5 hK5 => ?_)
            go_simp
            refine hK5.out _ _ (.inr hC3) ?_
            clear hK5 K5
            refine wpAnyK_one (i := 5) (by kernel_rfl) rfl (fun K5 hK5 => ?_)
            refine step_append_lies _ rfl (.tmp 36) (.tmp 39) 33 rfl (wo.heap.size + 1) 9 s0 _ 1 16 Try.underlying33 hs hsz0 hsz1 hsz2 rfl (by decide) (.slice vA j vk) j _ rfl HO.out ⟨wr.heap.size + 1, 0, none⟩ 1 1 [.string zs] rfl rfl HCL.out HONE.out (by omega) (by unfold maxLen; omega) (by omega) HBA.out _ rfl ?_
            intro g cap w3 h7 h8 _ _
            obtain ⟨f0, hx3, ho3, hb3⟩ := nw_next HB.out HX.out HO.out h7 h8
            have X3 := Lib.hid hx3
            have O3 := Lib.hid ho3
            have B3 := Lib.hid hb3
            obtain ⟨u0, f1⟩ := f0.1
            have f2 := f0.2
            clear h7 h8 hx3 ho3 hb3 f0
            refine hK5.out _ _ (.inl (by kernel_rfl)) ?_
            clear hK5 K5
            simp only [Act.put, List.setIfInBounds_toArray, List.set_cons_zero, List.set_cons_succ, List.getElem_toArray, List.getElem_cons_zero, List.getElem_cons_succ]
            refine wpAnyK_pure (i := 6) (v := .pointer (some ⟨wo.heap.size, 0, none⟩)) rfl (by kernel_rfl) (by kernel_rfl) (by kernel_rfl) (by decide) (fun _ _ _ h => h) (Or.inl ⟨by rfl, ?_⟩) (.inl (by kernel_rfl)) ?_
            · intro w6 _
              go_simp
            simp only [Act.put, List.setIfInBounds_toArray, List.set_cons_zero, List.set_cons_succ, List.getElem_toArray, List.getElem_cons_zero, List.getElem_cons_succ]
            refine wpAnyK_one (i := 7) (by kernel_rfl) rfl (fun K5 hK5 => ?_)
            go_simp
            refine hK5.out _ _ (.inl (by kernel_rfl)) ?_
            clear hK5 K5
            refine wpAnyK_done (by kernel_rfl) ?_ _
            refine hK _ _ ?_
            go_wp2
            go_roundw
            case rel => exact ⟨j + 1, _, _, by omega, by go_num, X3.out, by rw [HREP.out]; exact O3.out, B3.out⟩
            case measure => simp [intOf]; omega
          · obtain rfl : j = m := by omega
            have g0 := hx.cell 0
            have g1 := hx.cell 1
            have g2 := hx.cell 2
            have g3 := hx.cell 3
            simp only [List.getElem?_toArray, List.getElem?_cons_succ, List.getElem?_cons_zero] at g0 g1 g2 g3
            obtain ⟨A2, c2, hv2, hs2⟩ := SlT.of_own (T := T) ho (fun g hg => HT.out g (by have := HR.out.bel.size; omega))
            have hrow2 := (Row.of_own ho).low (show w.heap.size ≤ wo.heap.size + 1 by have := HR.out.bel.size; omega)
            injection hv2 with hv2 _ hc2
            subst hv2 hc2
            have hok := HOK.out
            rw [← pagesL_fresh] at hs2 hrow2
            have HQ : Hid (Cq wr T w.heap.size ⟨fresh6 j, vA, vk, none, 0⟩) := Lib.hid ⟨hs2, hrow2, rfl, rfl, rfl, hok⟩
            have HRW := Lib.hid (HR.out.below hb)
            have HSZ : Hid (w.heap.size ≤ wr.heap.size) := Lib.hid (by have := HR.out.bel.size; have := hb.size; omega)
            clear hx ho hb hs2 hrow2 hok
            go_wp2_with (at_builtin; refine wpList_append_own _ rfl _ _ 30 rfl w.heap.size 53 i0 _ 4 64 Try.underlying30 hi hz0 hz1 hz2 rfl (by decide) _ k _ rfl (HRW.out.row.alloc _) ⟨wr.heap.size, 0, none⟩ 1 1 [.slice vA j vk, .slice none 0 0, .int .i64 (-1), .bool false] rfl rfl ?_ ?_ ?_ ?_ ?_ ?_; (exact cell_four_new _ _ _ _ _ _); (intro u hu; simp at hu; rcases hu with rfl | rfl | rfl | rfl <;> rfl); (unfold maxLen; omega); (omega); (have hq := HSZ.out; simp; omega); intro v4 w4 h9 h10 _; have C4 := Lib.hid (HRW.out.step _ (g' := ⟨fresh6 j, vA, vk, none, 0⟩) HQ.out HRS.out h9 h10); clear h9 h10)
            go_roundw
            case rel => exact ⟨k + 1, _, by omega, by go_num, C4.out, HALL2.out⟩
            case measure => simp [intOf]; omega
    · obtain rfl : k = n := by omega
      have hls : ls.all szB = true := by
        have := HALL.out
        rwa [List.take_of_length_le (Nat.le_of_eq HLEN.out.symm)] at this
      by_cases h1 : k < 1
      · have HNB : Hid (newB ls = false) := Lib.hid (by unfold newB; rw [← HLEN.out]; simp; omega)
        clear hls
        have e1 : ((k : Int) < 1) := by omega
        go_wp2
        go_ret2
        refine ⟨HR.out.bel, ?_⟩
        rw [HNB.out]
        rfl
      · have e1 : ¬ ((k : Int) < 1) := by omega
        by_cases h2 : 64 < k
        · have HNB : Hid (newB ls = false) := Lib.hid (by unfold newB; rw [← HLEN.out]; simp; omega)
          clear hls
          have e2 : (64 : Int) < (k : Int) := by omega
          go_wp2
          go_ret2
          refine ⟨HR.out.bel, ?_⟩
          rw [HNB.out]
          rfl
        · have HNB : Hid (newB ls = true) := Lib.hid (by unfold newB; rw [← HLEN.out, hls]; simp; omega)
          have e2 : ¬ (64 : Int) < (k : Int) := by omega
          clear hls
          obtain ⟨A', c', hv, hga, hrg⟩ := HR.out.done (by rw [List.length_map]; exact HLEN.out) HT.out
          subst hv
          have HGA := Lib.hid hga
          have HRG := Lib.hid hrg
          have HBE := Lib.hid HR.out.bel
          clear hga hrg
          go_wp2
          go_ret2
          refine ⟨HBE.out, ?_⟩
          rw [HNB.out]
          exact ⟨A', c', gs', rfl, HGA.out, HRG.out⟩
end

end Go.Proofs.Ythbchloghbfnmaa
