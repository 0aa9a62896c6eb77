/- Package disk: settle: contracts, no statement. -/
import Derived.Test.YthbchloghbfnmaaDsm
namespace Go.Proofs.Ythbchloghbfnmaa
open Go.RowKit
set_option linter.unusedVariables false

section
variable {T : Tg} {d A i m1 m2 : Nat} {v : Value} {r : Rg}
set_option maxRecDepth 100000 in
set_option maxHeartbeats 4000000 in
theorem settle_sync (w : World) (h : Ar w T d A i m1 m2 v r) (hA : ∃ cs, Has w A 72 cs) (hlo : ∀ x t, T x = some t → x < w.heap.size) (hn : r.loose.length ≤ 1000) :
    Calls Try.prog 38 #[.pointer (some ⟨A, i * 6, none⟩), .func (.func 39) #[] #[]] w (WrEnd T d A i m1 m2 (setR allK r) w) := by
  obtain ⟨vA, vk, rfl⟩ := own_slw h.row
  have HH := Lib.hid h
  have HA := Lib.hid hA
  have HL := Lib.hid hlo
  have c2 := h.c2
  have hz0 := zero_write
  have hzs := wzero_size
  generalize (Value.int .i64 0 :: zeros.map byteV).toArray = zw at hz0 hzs
  have HZ := Lib.hid hz0
  have hmx : Try.prog.follows .mixedOrders = true := by kernel_rfl
  clear h hA hlo hz0
  obtain ⟨n, hnn⟩ : ∃ n, r.loose.length = n := ⟨_, rfl⟩
  have HN := Lib.hid hnn
  rw [hnn] at hn c2
  have HV := Lib.hid HH.out.row
  rw [hnn] at HH
  clear hnn
  go_enter Try.func38, Try.ntmps38
  go_wp2
  go_loopw [11] (fun ix wr => ∃ k : Nat, k ≤ n ∧ ix = .int .i64 (k : Int) ∧ Ar wr T d A i m1 m2 (.slice vA n vk) (synR allK r k) ∧ Nx T d A i w T wr) (fun ix _ => n - (intOf ix).toNat)
  case atStart => exact ⟨0, Nat.zero_le _, rfl, by rw [synR_zero]; exact HH.out, Nx.refl _ _ _ _ _ HL.out⟩
  case round =>
    obtain ⟨k, hk, rfl, ha, hx⟩ := hrel
    have AR := Lib.hid ha
    have NX := Lib.hid hx
    have LW := Lib.hid (hx.lo HL.out)
    obtain ⟨csw, hcsw⟩ := HA.out
    obtain ⟨csr, hAr, _⟩ := hx.row csw hcsw
    have AW : Hid (∃ cs, Has wr A 72 cs) := Lib.hid ⟨csr, hAr⟩
    have c2r := ha.c2
    clear ha hx hcsw hAr
    by_cases hlt : k < n
    · have hkl : k < r.loose.length := by rw [HN.out]; exact hlt
      obtain ⟨x, hxk⟩ : ∃ x, r.loose[k]? = some x := ⟨_, List.getElem?_eq_getElem hkl⟩
      have hx128 := (HH.out.ok.loose x (List.mem_of_getElem? hxk)).2.2
      have hrow := AR.out.row
      obtain ⟨g, cap, hv, hrg⟩ := row_range (l := r.loose) hrow (fun y hy => (HH.out.ok.loose y hy).2.2) hxk
      have hvs : vA = some ⟨g, 0, none⟩ := by injection hv
      have hld := load_write hx128 hrg
      have hst := store_write wr hx128 hzs
      have hz1 := HZ.out wr
      have STEP := Lib.hid (synR_step (K := allK) hxk)
      obtain ⟨W, hW⟩ : ∃ W, wr.alloc (.cells (cellsW x).toArray 91) = W := ⟨_, rfl⟩
      have BW : Below wr.heap.size wr W := hW ▸ (Below.refl _ wr).alloc (Nat.le_refl _) _
      have RM : W.rangeAt wr.heap.size 0 (cellsW x) := hW ▸ range_made wr x
      have AW2 : Hid (∃ cs, Has W A 72 cs) := Lib.hid (by
        obtain ⟨cs, hcs⟩ := AW.out
        exact ⟨cs, hcs.below BW hcs.lt⟩)
      have ARW := Lib.hid (AR.out.below AW.out BW)
      have NXW := Lib.hid (NX.out.trans (Nx.below BW LW.out))
      have LWW := Lib.hid (NXW.out.lo HL.out)
      rw [hW] at hst
      have hX := Lib.hid hx128
      have i0 : (0 : Int) ≤ (k : Int) := by omega
      have i1 : (k : Int) < (n : Int) := by omega
      obtain ⟨w1, hput, hM, hg, _⟩ := run_put (P := Try.prog) (w := W.drew) Try.underlying68 Try.underlying3 ARW.out.drew.p1 x.1 (pageV x.2)
      have PS := Lib.hid (ARW.out.drew.sput AW2.out LWW.out hX.out hM hg)
      have hS0 : (fun w' : World => w'.cell? ⟨A, i * 6 + 1, none⟩ = some (.map (some m1)) ∧ w'.cell? ⟨wr.heap.size, 0, none⟩ = some (.int .i64 x.1) ∧ w'.rangeAt wr.heap.size 1 (x.2.map byteV)) W.drew := ⟨ARW.out.c1, by simpa using RM 0 (.int .i64 x.1) (by simp [cellsW]), range_tail RM⟩
      have hS1 : (fun w' : World => w'.cell? ⟨A, i * 6 + 1, none⟩ = some (.map (some m1)) ∧ w'.cell? ⟨wr.heap.size, 0, none⟩ = some (.int .i64 x.1) ∧ w'.rangeAt wr.heap.size 1 (x.2.map byteV)) w1 := ⟨PS.out.1.c1, by
        obtain ⟨h1, h2, h3⟩ := hS0
        have hne : wr.heap.size ≠ m1 := fun e => by have := ARW.out.t1; rw [← e] at this; have := LW.out _ _ this; omega
        have hlt2 : wr.heap.size < W.drew.heap.size := World.block_lt_of_cell? W.drew _ h2
        have hh := hg.block wr.heap.size hlt2 (fun e => hne (by injection e))
        exact ⟨(cell_heap (p := ⟨wr.heap.size, 0, none⟩) hh).trans h2, fun j u hj => (cell_heap (p := ⟨wr.heap.size, 1 + j, none⟩) hh).trans (h3 j u hj)⟩⟩
      have HQ := Lib.hid (sync1_any k W)
      obtain ⟨q, hq⟩ : ∃ q, allK k = q := ⟨_, rfl⟩
      rw [hq] at HQ STEP
      subst hvs
      clear hrow hv hrg hkl hxk RM BW hM hg hq
      generalize hcv : (cellsW x).toArray = cw at hld hst hW
      generalize hzw : wr.alloc (.cells zw 91) = WZ at hst
      clear hcv
      cases q
      · clear hput hS0 hS1
        go_wp2_with (first
          | (refine wpL_load rfl 91 (.tmp 14) rfl _ rfl _ hld ?_)
          | (refine wpL_store rfl 91 (.tmp 5) (.tmp 15) rfl _ _ rfl rfl _ hst ?_)
          | (go_at_call 39; (with_reducible refine HQ.out.mono ?_); rintro e w2 ⟨rfl, rfl⟩))
        go_roundw
        case rel => exact ⟨k + 1, by omega, by go_num, by rw [STEP.out]; exact ARW.out, NXW.out⟩
        case measure => simp [intOf]; omega
      · go_wp2_with (first
          | (refine wpL_load rfl 91 (.tmp 14) rfl _ rfl _ hld ?_)
          | (refine wpL_store rfl 91 (.tmp 5) (.tmp 15) rfl _ _ rfl rfl _ hst ?_)
          | (go_at_call 39; (with_reducible refine HQ.out.mono ?_); rintro e w2 ⟨rfl, rfl⟩))
        rename_i K hK
        refine wp_heldHQ (fun w' : World => w'.cell? ⟨A, i * 6 + 1, none⟩ = some (.map (some m1)) ∧ w'.cell? ⟨wr.heap.size, 0, none⟩ = some (.int .i64 x.1) ∧ w'.rangeAt wr.heap.size 1 (x.2.map byteV)) hmx ?_
        refine wpAnyH_take (i := 0) (v := .pointer (some ⟨A, i * 6, none⟩)) rfl (by kernel_rfl) (by kernel_rfl) (by kernel_rfl) (fun _ _ _ h => h) (Or.inl ⟨by rfl, ?_⟩) hS0 ?_
        · rintro w6 ⟨b1, b2, b3⟩
          go_simp
        simp only [Act.put, List.setIfInBounds_toArray, List.set_cons_zero, List.set_cons_succ, List.getElem_toArray, List.getElem_cons_zero]
        refine wpAnyH_take (i := 1) (v := .pointer (some ⟨A, i * 6, none⟩)) rfl (by kernel_rfl) (by kernel_rfl) (by kernel_rfl) (fun _ _ _ h => h) (Or.inl ⟨by rfl, ?_⟩) hS0 ?_
        · rintro w6 ⟨b1, b2, b3⟩
          go_simp
        simp only [Act.put, List.setIfInBounds_toArray, List.set_cons_zero, List.set_cons_succ, List.getElem_toArray, List.getElem_cons_zero, List.getElem_cons_succ]
        refine wpAnyH_take (i := 2) (v := .pointer (some ⟨A, i * 6 + 1, none⟩)) rfl (by kernel_rfl) (by kernel_rfl) (by kernel_rfl) (fun _ _ _ h => h) (Or.inl ⟨by rfl, ?_⟩) hS0 ?_
        · rintro w6 ⟨b1, b2, b3⟩
          go_simp
        simp only [Act.put, List.setIfInBounds_toArray, List.set_cons_zero, List.set_cons_succ, List.getElem_toArray, List.getElem_cons_zero, List.getElem_cons_succ]
        refine wpAnyH_take (i := 3) (v := .map (some m1)) rfl (by kernel_rfl) (by kernel_rfl) (by kernel_rfl) (fun _ _ _ h => h) (Or.inl ⟨by rfl, ?_⟩) hS0 ?_
        · rintro w6 ⟨b1, b2, b3⟩
          go_simp
        simp only [Act.put, List.setIfInBounds_toArray, List.set_cons_zero, List.set_cons_succ, List.getElem_toArray, List.getElem_cons_zero, List.getElem_cons_succ]
        refine wpAnyH_take (i := 4) (v := .pointer (some ⟨wr.heap.size, 0, none⟩)) rfl (by kernel_rfl) (by kernel_rfl) (by kernel_rfl) (fun _ _ _ h => h) (Or.inl ⟨by rfl, ?_⟩) hS0 ?_
        · rintro w6 ⟨b1, b2, b3⟩
          go_simp
        simp only [Act.put, List.setIfInBounds_toArray, List.set_cons_zero, List.set_cons_succ, List.getElem_toArray, List.getElem_cons_zero, List.getElem_cons_succ]
        refine wpAnyH_take (i := 5) (v := .int .i64 x.1) rfl (by kernel_rfl) (by kernel_rfl) (by kernel_rfl) (fun _ _ _ h => h) (Or.inl ⟨by rfl, ?_⟩) hS0 ?_
        · rintro w6 ⟨b1, b2, b3⟩
          go_simp
        simp only [Act.put, List.setIfInBounds_toArray, List.set_cons_zero, List.set_cons_succ, List.getElem_toArray, List.getElem_cons_zero, List.getElem_cons_succ]
        refine wpAnyH_take (i := 6) (v := .pointer (some ⟨wr.heap.size, 1, none⟩)) rfl (by kernel_rfl) (by kernel_rfl) (by kernel_rfl) (fun _ _ _ h => h) (Or.inl ⟨by rfl, ?_⟩) hS0 ?_
        · rintro w6 ⟨b1, b2, b3⟩
          go_simp
        simp only [Act.put, List.setIfInBounds_toArray, List.set_cons_zero, List.set_cons_succ, List.getElem_toArray, List.getElem_cons_zero, List.getElem_cons_succ]
        refine wpAnyH_take (i := 7) (v := pageV x.2) rfl (by kernel_rfl) (by kernel_rfl) (by kernel_rfl) (fun _ _ _ h => h) (yieldsIf_load_mid (by rfl) 88 (.tmp 25) rfl wr.heap.size 1 rfl (x.2.map byteV) _ (fun _ h => h.2.2) Try.underlying88 rfl (by rw [List.length_map, hX.out]; exact size_content)) hS0 ?_
        simp only [Act.put, List.setIfInBounds_toArray, List.set_cons_zero, List.set_cons_succ, List.getElem_toArray, List.getElem_cons_zero, List.getElem_cons_succ]
        refine wpAnyH_ready (rs := [8]) (by kernel_rfl) (by simp) ?_
        refine AllReadyH.cons rfl (fun K5 hK5 => ?_) AllReadyH.nil
        go_simp
        refine hK5.out _ _ hS1 (fun _ => ?_)
        clear hK5 K5
        refine wpAnyH_done (by kernel_rfl) ?_ _
        refine hK _ _ ?_
        go_wp2
        go_roundw
        case rel => exact ⟨k + 1, by omega, by go_num, by rw [STEP.out]; exact PS.out.1, NXW.out.trans PS.out.2.drew⟩
        case measure => simp [intOf]; omega
    · obtain rfl : k = n := by omega
      obtain ⟨V, hV⟩ : ∃ V, wr.setCell ⟨A, i * 6 + 2, none⟩ (.slice none 0 0) = V := ⟨_, rfl⟩
      obtain ⟨csr, hAr⟩ := AW.out
      have hp2 : MapAt V m2 _ := hV ▸ AR.out.p2.keep (setCell_heap_other wr ⟨A, i * 6 + 2, none⟩ (.slice none 0 0) m2 (AR.out.p2.apart hAr))
      obtain ⟨w9, hcl, hM9, hg9, _⟩ := run_clear (P := Try.prog) Try.underlying69 hp2
      have c3V : V.cell? ⟨A, i * 6 + 3, none⟩ = some (.map (some m2)) := by
        rw [← hV, (hAr.store (i * 6 + 2) (.slice none 0 0)).cell, Array.getElem?_setIfInBounds, if_neg (by omega), ← hAr.cell]
        exact AR.out.c3
      have f2 := hAr.free (i * 6 + 2)
      rw [← hV] at hg9
      have FIN := Lib.hid (AR.out.cleared AW.out LW.out hM9 hg9)
      clear hp2 hM9 hg9 hAr
      go_wp2
      refine bodyPost_end (results_none rfl _ _ _) rfl ?_
      refine ⟨rfl, T, .slice none 0 0, ?_, NX.out.trans FIN.out.2⟩
      have hF := FIN.out.1
      rw [synR_all HN.out.symm] at hF
      exact hF

set_option maxRecDepth 100000 in
set_option maxHeartbeats 4000000 in
theorem settle_crash (s : List UInt8) (B : Nat) (w : World) (h : Ar w T d A i m1 m2 v r) (hA : ∃ cs, Has w A 72 cs) (hlo : ∀ x t, T x = some t → x < w.heap.size) (hn : r.loose.length ≤ 1000) (hB : Has w B 9 #[.string ⟨s.toArray⟩]) (hT : ∀ k, T B ≠ some (d, k)) (hs : s.length ≤ 9223372036854775807) :
    Calls Try.prog 38 #[.pointer (some ⟨A, i * 6, none⟩), .func (.func 42) #[] #[.pointer (some ⟨B, 0, none⟩)]] w (WrEnd T d A i m1 m2 (setR (bitS s) r) w) := by
  obtain ⟨vA, vk, rfl⟩ := own_slw h.row
  have HH := Lib.hid h
  have HA := Lib.hid hA
  have HL := Lib.hid hlo
  have c2 := h.c2
  have hz0 := zero_write
  have hzs := wzero_size
  generalize (Value.int .i64 0 :: zeros.map byteV).toArray = zw at hz0 hzs
  have HZ := Lib.hid hz0
  have hmx : Try.prog.follows .mixedOrders = true := by kernel_rfl
  clear h hA hlo hz0
  obtain ⟨n, hnn⟩ : ∃ n, r.loose.length = n := ⟨_, rfl⟩
  have HN := Lib.hid hnn
  rw [hnn] at hn c2
  have HV := Lib.hid HH.out.row
  rw [hnn] at HH
  clear hnn
  have HB := Lib.hid hB
  have HTB := Lib.hid hT
  clear hB hT
  go_enter Try.func38, Try.ntmps38
  go_wp2
  go_loopw [11] (fun ix wr => ∃ k : Nat, k ≤ n ∧ ix = .int .i64 (k : Int) ∧ Ar wr T d A i m1 m2 (.slice vA n vk) (synR (bitS s) r k) ∧ Nx T d A i w T wr) (fun ix _ => n - (intOf ix).toNat)
  case atStart => exact ⟨0, Nat.zero_le _, rfl, by rw [synR_zero]; exact HH.out, Nx.refl _ _ _ _ _ HL.out⟩
  case round =>
    obtain ⟨k, hk, rfl, ha, hx⟩ := hrel
    have AR := Lib.hid ha
    have NX := Lib.hid hx
    have LW := Lib.hid (hx.lo HL.out)
    obtain ⟨csw, hcsw⟩ := HA.out
    obtain ⟨csr, hAr, _⟩ := hx.row csw hcsw
    have AW : Hid (∃ cs, Has wr A 72 cs) := Lib.hid ⟨csr, hAr⟩
    have c2r := ha.c2
    clear ha hx hcsw hAr
    by_cases hlt : k < n
    · have hkl : k < r.loose.length := by rw [HN.out]; exact hlt
      obtain ⟨x, hxk⟩ : ∃ x, r.loose[k]? = some x := ⟨_, List.getElem?_eq_getElem hkl⟩
      have hx128 := (HH.out.ok.loose x (List.mem_of_getElem? hxk)).2.2
      have hrow := AR.out.row
      obtain ⟨g, cap, hv, hrg⟩ := row_range (l := r.loose) hrow (fun y hy => (HH.out.ok.loose y hy).2.2) hxk
      have hvs : vA = some ⟨g, 0, none⟩ := by injection hv
      have hld := load_write hx128 hrg
      have hst := store_write wr hx128 hzs
      have hz1 := HZ.out wr
      have STEP := Lib.hid (synR_step (K := (bitS s)) hxk)
      obtain ⟨W, hW⟩ : ∃ W, wr.alloc (.cells (cellsW x).toArray 91) = W := ⟨_, rfl⟩
      have BW : Below wr.heap.size wr W := hW ▸ (Below.refl _ wr).alloc (Nat.le_refl _) _
      have RM : W.rangeAt wr.heap.size 0 (cellsW x) := hW ▸ range_made wr x
      have AW2 : Hid (∃ cs, Has W A 72 cs) := Lib.hid (by
        obtain ⟨cs, hcs⟩ := AW.out
        exact ⟨cs, hcs.below BW hcs.lt⟩)
      have ARW := Lib.hid (AR.out.below AW.out BW)
      have NXW := Lib.hid (NX.out.trans (Nx.below BW LW.out))
      have LWW := Lib.hid (NXW.out.lo HL.out)
      rw [hW] at hst
      have hX := Lib.hid hx128
      have i0 : (0 : Int) ≤ (k : Int) := by omega
      have i1 : (k : Int) < (n : Int) := by omega
      obtain ⟨w1, hput, hM, hg, _⟩ := run_put (P := Try.prog) (w := W.drew) Try.underlying68 Try.underlying3 ARW.out.drew.p1 x.1 (pageV x.2)
      have PS := Lib.hid (ARW.out.drew.sput AW2.out LWW.out hX.out hM hg)
      have hS0 : (fun w' : World => w'.cell? ⟨A, i * 6 + 1, none⟩ = some (.map (some m1)) ∧ w'.cell? ⟨wr.heap.size, 0, none⟩ = some (.int .i64 x.1) ∧ w'.rangeAt wr.heap.size 1 (x.2.map byteV)) W.drew := ⟨ARW.out.c1, by simpa using RM 0 (.int .i64 x.1) (by simp [cellsW]), range_tail RM⟩
      have hS1 : (fun w' : World => w'.cell? ⟨A, i * 6 + 1, none⟩ = some (.map (some m1)) ∧ w'.cell? ⟨wr.heap.size, 0, none⟩ = some (.int .i64 x.1) ∧ w'.rangeAt wr.heap.size 1 (x.2.map byteV)) w1 := ⟨PS.out.1.c1, by
        obtain ⟨h1, h2, h3⟩ := hS0
        have hne : wr.heap.size ≠ m1 := fun e => by have := ARW.out.t1; rw [← e] at this; have := LW.out _ _ this; omega
        have hlt2 : wr.heap.size < W.drew.heap.size := World.block_lt_of_cell? W.drew _ h2
        have hh := hg.block wr.heap.size hlt2 (fun e => hne (by injection e))
        exact ⟨(cell_heap (p := ⟨wr.heap.size, 0, none⟩) hh).trans h2, fun j u hj => (cell_heap (p := ⟨wr.heap.size, 1 + j, none⟩) hh).trans (h3 j u hj)⟩⟩
      have HBW : Has W B 9 #[.string ⟨s.toArray⟩] := Has.below (show Has wr B 9 _ from (NX.out.block B HB.out.lt (fun e => by rw [e] at HTB; exact HTB.out 1 HH.out.ta) (fun j _ => HTB.out _)).trans HB.out) BW (Nat.lt_of_lt_of_le HB.out.lt NX.out.size)
      have HQ := Lib.hid (crash1_any s B k W HBW hs (by omega))
      clear HBW
      obtain ⟨q, hq⟩ : ∃ q, (bitS s) k = q := ⟨_, rfl⟩
      rw [hq] at HQ STEP
      subst hvs
      clear hrow hv hrg hkl hxk RM BW hM hg hq
      generalize hcv : (cellsW x).toArray = cw at hld hst hW
      generalize hzw : wr.alloc (.cells zw 91) = WZ at hst
      clear hcv
      cases q
      · clear hput hS0 hS1
        go_wp2_with (first
          | (refine wpL_load rfl 91 (.tmp 14) rfl _ rfl _ hld ?_)
          | (refine wpL_store rfl 91 (.tmp 5) (.tmp 15) rfl _ _ rfl rfl _ hst ?_)
          | (go_at_call 42; (with_reducible refine HQ.out.mono ?_); rintro e w2 ⟨rfl, rfl⟩))
        go_roundw
        case rel => exact ⟨k + 1, by omega, by go_num, by rw [STEP.out]; exact ARW.out, NXW.out⟩
        case measure => simp [intOf]; omega
      · go_wp2_with (first
          | (refine wpL_load rfl 91 (.tmp 14) rfl _ rfl _ hld ?_)
          | (refine wpL_store rfl 91 (.tmp 5) (.tmp 15) rfl _ _ rfl rfl _ hst ?_)
          | (go_at_call 42; (with_reducible refine HQ.out.mono ?_); rintro e w2 ⟨rfl, rfl⟩))
        rename_i K hK
        refine wp_heldHQ (fun w' : World => w'.cell? ⟨A, i * 6 + 1, none⟩ = some (.map (some m1)) ∧ w'.cell? ⟨wr.heap.size, 0, none⟩ = some (.int .i64 x.1) ∧ w'.rangeAt wr.heap.size 1 (x.2.map byteV)) hmx ?_
        refine wpAnyH_take (i := 0) (v := .pointer (some ⟨A, i * 6, none⟩)) rfl (by kernel_rfl) (by kernel_rfl) (by kernel_rfl) (fun _ _ _ h => h) (Or.inl ⟨by rfl, ?_⟩) hS0 ?_
        · rintro w6 ⟨b1, b2, b3⟩
          go_simp
        simp only [Act.put, List.setIfInBounds_toArray, List.set_cons_zero, List.set_cons_succ, List.getElem_toArray, List.getElem_cons_zero]
        refine wpAnyH_take (i := 1) (v := .pointer (some ⟨A, i * 6, none⟩)) rfl (by kernel_rfl) (by kernel_rfl) (by kernel_rfl) (fun _ _ _ h => h) (Or.inl ⟨by rfl, ?_⟩) hS0 ?_
        · rintro w6 ⟨b1, b2, b3⟩
          go_simp
        simp only [Act.put, List.setIfInBounds_toArray, List.set_cons_zero, List.set_cons_succ, List.getElem_toArray, List.getElem_cons_zero, List.getElem_cons_succ]
        refine wpAnyH_take (i := 2) (v := .pointer (some ⟨A, i * 6 + 1, none⟩)) rfl (by kernel_rfl) (by kernel_rfl) (by kernel_rfl) (fun _ _ _ h => h) (Or.inl ⟨by rfl, ?_⟩) hS0 ?_
        · rintro w6 ⟨b1, b2, b3⟩
          go_simp
        simp only [Act.put, List.setIfInBounds_toArray, List.set_cons_zero, List.set_cons_succ, List.getElem_toArray, List.getElem_cons_zero, List.getElem_cons_succ]
        refine wpAnyH_take (i := 3) (v := .map (some m1)) rfl (by kernel_rfl) (by kernel_rfl) (by kernel_rfl) (fun _ _ _ h => h) (Or.inl ⟨by rfl, ?_⟩) hS0 ?_
        · rintro w6 ⟨b1, b2, b3⟩
          go_simp
        simp only [Act.put, List.setIfInBounds_toArray, List.set_cons_zero, List.set_cons_succ, List.getElem_toArray, List.getElem_cons_zero, List.getElem_cons_succ]
        refine wpAnyH_take (i := 4) (v := .pointer (some ⟨wr.heap.size, 0, none⟩)) rfl (by kernel_rfl) (by kernel_rfl) (by kernel_rfl) (fun _ _ _ h => h) (Or.inl ⟨by rfl, ?_⟩) hS0 ?_
        · rintro w6 ⟨b1, b2, b3⟩
          go_simp
        simp only [Act.put, List.setIfInBounds_toArray, List.set_cons_zero, List.set_cons_succ, List.getElem_toArray, List.getElem_cons_zero, List.getElem_cons_succ]
        refine wpAnyH_take (i := 5) (v := .int .i64 x.1) rfl (by kernel_rfl) (by kernel_rfl) (by kernel_rfl) (fun _ _ _ h => h) (Or.inl ⟨by rfl, ?_⟩) hS0 ?_
        · rintro w6 ⟨b1, b2, b3⟩
          go_simp
        simp only [Act.put, List.setIfInBounds_toArray, List.set_cons_zero, List.set_cons_succ, List.getElem_toArray, List.getElem_cons_zero, List.getElem_cons_succ]
        refine wpAnyH_take (i := 6) (v := .pointer (some ⟨wr.heap.size, 1, none⟩)) rfl (by kernel_rfl) (by kernel_rfl) (by kernel_rfl) (fun _ _ _ h => h) (Or.inl ⟨by rfl, ?_⟩) hS0 ?_
        · rintro w6 ⟨b1, b2, b3⟩
          go_simp
        simp only [Act.put, List.setIfInBounds_toArray, List.set_cons_zero, List.set_cons_succ, List.getElem_toArray, List.getElem_cons_zero, List.getElem_cons_succ]
        refine wpAnyH_take (i := 7) (v := pageV x.2) rfl (by kernel_rfl) (by kernel_rfl) (by kernel_rfl) (fun _ _ _ h => h) (yieldsIf_load_mid (by rfl) 88 (.tmp 25) rfl wr.heap.size 1 rfl (x.2.map byteV) _ (fun _ h => h.2.2) Try.underlying88 rfl (by rw [List.length_map, hX.out]; exact size_content)) hS0 ?_
        simp only [Act.put, List.setIfInBounds_toArray, List.set_cons_zero, List.set_cons_succ, List.getElem_toArray, List.getElem_cons_zero, List.getElem_cons_succ]
        refine wpAnyH_ready (rs := [8]) (by kernel_rfl) (by simp) ?_
        refine AllReadyH.cons rfl (fun K5 hK5 => ?_) AllReadyH.nil
        go_simp
        refine hK5.out _ _ hS1 (fun _ => ?_)
        clear hK5 K5
        refine wpAnyH_done (by kernel_rfl) ?_ _
        refine hK _ _ ?_
        go_wp2
        go_roundw
        case rel => exact ⟨k + 1, by omega, by go_num, by rw [STEP.out]; exact PS.out.1, NXW.out.trans PS.out.2.drew⟩
        case measure => simp [intOf]; omega
    · obtain rfl : k = n := by omega
      obtain ⟨V, hV⟩ : ∃ V, wr.setCell ⟨A, i * 6 + 2, none⟩ (.slice none 0 0) = V := ⟨_, rfl⟩
      obtain ⟨csr, hAr⟩ := AW.out
      have hp2 : MapAt V m2 _ := hV ▸ AR.out.p2.keep (setCell_heap_other wr ⟨A, i * 6 + 2, none⟩ (.slice none 0 0) m2 (AR.out.p2.apart hAr))
      obtain ⟨w9, hcl, hM9, hg9, _⟩ := run_clear (P := Try.prog) Try.underlying69 hp2
      have c3V : V.cell? ⟨A, i * 6 + 3, none⟩ = some (.map (some m2)) := by
        rw [← hV, (hAr.store (i * 6 + 2) (.slice none 0 0)).cell, Array.getElem?_setIfInBounds, if_neg (by omega), ← hAr.cell]
        exact AR.out.c3
      have f2 := hAr.free (i * 6 + 2)
      rw [← hV] at hg9
      have FIN := Lib.hid (AR.out.cleared AW.out LW.out hM9 hg9)
      clear hp2 hM9 hg9 hAr
      go_wp2
      refine bodyPost_end (results_none rfl _ _ _) rfl ?_
      refine ⟨rfl, T, .slice none 0 0, ?_, NX.out.trans FIN.out.2⟩
      have hF := FIN.out.1
      rw [synR_all HN.out.symm] at hF
      exact hF
end

end Go.Proofs.Ythbchloghbfnmaa
