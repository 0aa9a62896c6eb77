import Derived.Test.YtdoabcbembinjaaDoorJ05
import Derived.Test.YtdoabcbembinjaaDoorJ21
import Derived.Test.YtdoabcbembinjaaDoorJ17
/- Of a claim's texts, joined: Ddv ChGets. No statement but in the last. -/
section
namespace Go.Proofs.YtdoabcbembinjaaDoor
open Go.RowKit
set_option linter.unusedVariables false
section
variable {w : World} {T : Tg} {d D A : Nat} {rs : List Rg}
set_option maxRecDepth 100000 in
set_option maxHeartbeats 2000000 in
theorem Write_gen (x p : Int) (l : List UInt8) (Ab : Option Addr) (n c : Nat) (h : Dk w T d D A rs) (hlo : ∀ x t, T x = some t → x < w.heap.size) (hn : n = l.length) (hr : Reads w Ab (l.map byteV)) (hc : n ≤ c) (hT : l.length = 128 → ∀ a, Ab = some a → ∀ k, T a.block ≠ some (d, k)) (hm : ∀ r ∈ rs, r.loose.length ≤ 1000) :
    Calls Tryd.prog 16 #[.pointer (some ⟨D, 0, none⟩), .int .i64 x, .int .i64 p, .slice Ab n c] w (DkEnd (.int .i64 (wrA rs x p l).2) T d D A (wrA rs x p l).1 w) := by
  have HF := Lib.hid (running_any x h)
  have HD := Lib.hid h
  have HLO := Lib.hid hlo
  have HR := Lib.hid hr
  have HT := Lib.hid hT
  clear hr hT
  cases hr : regN rs x with
  | none =>
    rw [show wrA rs x p l = (rs, 2) by simp [wrA, hr]]
    rw [runV_none hr] at HF
    clear h hr hm hlo
    go_enter Tryd.func16, Tryd.ntmps16
    go_wp2_with (go_at_call 33; (with_reducible refine HF.out.mono ?_); rintro e w2 ⟨rfl, rfl⟩)
    go_ret
    exact DkEnd.same HD.out HLO.out
  | some r =>
    obtain ⟨h1, h2, h3⟩ := regN_some hr
    obtain ⟨m1, m2, v, ha⟩ := h.at_ _ r h3
    have hmr := hm r (List.mem_of_getElem? h3)
    cases hd : r.down
    · rw [runV_up hr hd] at HF
      have HH := Lib.hid (has_any p w ha)
      cases hh : hasB r p
      · rw [show wrA rs x p l = (rs, 2) by simp [wrA, hr, hd, hh]]
        rw [hh] at HH
        clear h hr h1 h2 h3 ha hd hh hm hlo hmr
        go_enter Tryd.func16, Tryd.ntmps16
        go_wp2_with (first
          | (go_at_call 33; (with_reducible refine HF.out.mono ?_); rintro e w2 ⟨rfl, rfl⟩)
          | (go_at_call 34; (with_reducible refine HH.out.mono ?_); rintro e w2 ⟨rfl, rfl⟩))
        go_ret
        exact DkEnd.same HD.out HLO.out
      · have hh0 : 0 ≤ p ∧ p < r.size := by simpa [hasB] using hh
        by_cases h128 : l.length = 128
        · have HS := Lib.hid (stops_any w ha h.blk_ hlo hd)
          have HP := Lib.hid hh0
          rw [show n = 128 by omega] at *
          cases hq : (cntR r).down
          · rw [show wrA rs x p l = (rs.set x.toNat (wrR (cntR r) p l), 0) by simp [wrA, hr, hd, hh, h128, hq]]
            rw [hq] at HS
            rw [hh] at HH
            obtain ⟨gb, ob, hAb, hcell⟩ := HR.out (by simp [h128])
            have hrg : w.rangeAt gb ob (l.map byteV) := hcell
            have HRG := Lib.hid hrg
            have HTb := Lib.hid (HT.out h128 ⟨gb, ob, none⟩ hAb)
            have HB := Lib.hid h.blk_
            have hmr' : (cntR r).loose.length ≤ 1000 := by rw [cntR_loose]; exact hmr
            have hgb : gb < w.heap.size := World.block_lt_of_cell? w _ (hrg 0 (byteV (l.getD 0 0)) (by simp [h128, List.getD]))
            have HWr := Lib.hid (fun (w2 : World) (a2 : Ar w2 T d A x.toNat m1 m2 v (cntR r)) (n2 : Nx T d A x.toNat w T w2) =>
              write_any p l gb ob c w2 a2 (n2.blk HB.out) (n2.lo HLO.out) HP.out.1 (by rw [cntR_size]; exact HP.out.2) h128
                (fun j u hj => (cell_heap (p := ⟨gb, ob + j, none⟩) (n2.block gb hgb (fun e => HTb.out 1 (by show T gb = _; rw [e]; exact ha.ta)) (fun j _ => HTb.out _))).trans (HRG.out j u hj)) hc hmr' HTb.out)
            subst hAb
            clear h hr h1 h2 h3 ha hd hh hm hlo hmr hh0 hcell hrg h128 hq hmr' hgb hn
            go_enter Tryd.func16, Tryd.ntmps16
            go_wp2_with (first
              | (go_at_call 33; (with_reducible refine HF.out.mono ?_); rintro e w2 ⟨rfl, rfl⟩)
              | (go_at_call 34; (with_reducible refine HH.out.mono ?_); rintro e w2 ⟨rfl, rfl⟩)
              | (go_at_call 35; (with_reducible refine HS.out.mono ?_); rintro e w2 ⟨rfl, a2, n2⟩; have A2 := Lib.hid a2; have N2 := Lib.hid n2; clear a2 n2)
              | (go_at_call 36; (with_reducible refine (HWr.out _ A2.out N2.out).mono ?_); rintro e w3 ⟨rfl, T', v', a3, n3⟩; have A3 := Lib.hid a3; have N3 := Lib.hid (N2.out.trans n3); clear a3 n3))
            go_ret
            exact HD.out.end_ N3.out A3.out
          · rw [show wrA rs x p l = (rs.set x.toNat (cntR r), 3) by simp [wrA, hr, hd, hh, h128, hq]]
            rw [hq] at HS
            rw [hh] at HH
            clear h hr h1 h2 h3 ha hd hh hm hlo hmr hh0 h128 hq hn
            go_enter Tryd.func16, Tryd.ntmps16
            go_wp2_with (first
              | (go_at_call 33; (with_reducible refine HF.out.mono ?_); rintro e w2 ⟨rfl, rfl⟩)
              | (go_at_call 34; (with_reducible refine HH.out.mono ?_); rintro e w2 ⟨rfl, rfl⟩)
              | (go_at_call 35; (with_reducible refine HS.out.mono ?_); rintro e w2 ⟨rfl, a2, n2⟩; have A2 := Lib.hid a2; have N2 := Lib.hid n2; clear a2 n2))
            go_ret
            exact HD.out.end_ N2.out A2.out
        · rw [show wrA rs x p l = (rs, 1) by simp [wrA, hr, hd, hh, h128]]
          rw [hh] at HH
          have e1 : ((n : Int) != 128) = true := by simp; omega
          clear h hr h1 h2 h3 ha hd hh hm hlo hmr h128 hn
          go_enter Tryd.func16, Tryd.ntmps16
          go_wp2_with (first
            | (go_at_call 33; (with_reducible refine HF.out.mono ?_); rintro e w2 ⟨rfl, rfl⟩)
            | (go_at_call 34; (with_reducible refine HH.out.mono ?_); rintro e w2 ⟨rfl, rfl⟩))
          go_ret
          exact DkEnd.same HD.out HLO.out
    · rw [show wrA rs x p l = (rs, 3) by simp [wrA, hr, hd]]
      rw [runV_down hr hd] at HF
      clear h hr h1 h2 h3 ha hd hm hlo hmr
      go_enter Tryd.func16, Tryd.ntmps16
      go_wp2_with (go_at_call 33; (with_reducible refine HF.out.mono ?_); rintro e w2 ⟨rfl, rfl⟩)
      go_ret
      exact DkEnd.same HD.out HLO.out
end
end Go.Proofs.YtdoabcbembinjaaDoor
end

section
namespace Go.Proofs.YtdoabcbembinjaaDoor
open Go.RowKit
set_option linter.unusedVariables false

theorem getF_few {rd : Int → List UInt8 × Int} {z : Nat} : ∀ (f i : Nat) (p : Int) (s : List UInt8) (l : List Int), (getF rd z f i p s l).2.1.length ≤ l.length + f
  | 0, i, p, s, l => by rw [getF_end]; exact Nat.le_add_right _ _
  | f + 1, i, p, s, l => by
    rw [getF]
    split
    · simp
    · split
      · simp
      · split
        · simp
        · split
          · simp
          · refine Nat.le_trans (getF_few f _ _ _ _) ?_
            simp
            omega
theorem getC_few (rd : Int → List UInt8 × Int) (z p : Int) : (getC rd z p).2.1.length ≤ 4 := by
  unfold getC
  split
  · simp
  · refine Nat.le_trans (getF_few _ _ _ _ _) ?_
    have := need_few z
    simpa using this
set_option maxRecDepth 100000 in
set_option maxHeartbeats 8000000 in
theorem walkChGets (A : Option Addr) (n c : Nat) (l : List Wq) (first size : Int) (W : World) (ht : Tab W) (h : WrsA W A n l) (hnI : n ≤ 9223372036854775807) :
    Calls Tryd.prog 4 #[.slice A n c, .int .i64 first, .int .i64 size] W fun e W' => e = .returned (.bool true) ∧ Below W.heap.size W W' := by
  have hmx : Tryd.prog.follows .mixedOrders = true := by kernel_rfl
  have HAW := Lib.hid (awake09_any W ht)
  by_cases hn : 20 < n
  · have hnI' : (20 : Int) < (n : Int) := by omega
    clear h
    go_enter Tryd.func4, Tryd.ntmps4
    go_wp2_with (go_at_call 8; (with_reducible refine HAW.out.mono ?_); rintro e w1 ⟨rfl, b1⟩; have B1 := Lib.hid b1; clear b1)
    go_ret
    exact ⟨rfl, B1.out⟩
  · have hn20 : ¬ (20 : Int) < (n : Int) := by omega
    have HNW : Hid (∀ w2, Below W.heap.size W w2 → ∀ X2, w2.alloc (.cells #[.int .i64 12] 3) = X2 → Calls Tryd.prog 14 #[.slice (some ⟨w2.heap.size, 0, none⟩) 1 1] X2 fun e w' => ∃ D A T', e = .returned (.tuple #[.pointer (some ⟨D, 0, none⟩), .int .i64 0]) ∧ Dz W w' T' 0 D A 0 [fresh6 12] ∧ Tn noT 0 X2 T' w' ∧ Below X2.heap.size X2 w') := Lib.hid (fun w2 b X2 e => by
      subst e
      exact New_z (w0 := W) (c := 1) 0 (ints_lit w2 [12] _ rfl) (lo_none _ _) (b.alloc b.size _) (by decide))
    have HRN : Hid (∀ (w3 : World) (T : Tg), (∀ g, w3.heap.size ≤ g → T g = none) → ∀ X3, w3.alloc (.cells #[.int .i64 12] 3) = X3 → Calls Tryd.prog 15 #[.slice (some ⟨w3.heap.size, 0, none⟩) 1 1] X3 fun e w' => Below X3.heap.size X3 w' ∧ ∃ A' c' gs', e = .returned (.tuple #[.slice A' 1 c', .int .i64 0]) ∧ GA w' T A' 1 c' gs' ∧ rgs gs' = [fresh6 12]) := Lib.hid (fun w3 T hT X3 e => by
      have hI : Ints6 X3 (some ⟨w3.heap.size, 0, none⟩) 1 [12] := e ▸ ints_lit w3 [12] _ rfl
      have hsz : w3.heap.size ≤ X3.heap.size := by rw [← e, World.size_alloc]; omega
      have hq : Calls Tryd.prog 15 #[.slice (some ⟨w3.heap.size, 0, none⟩) 1 1] X3 (NwEnd T [12] 1 X3) := r6New_any (w := X3) (T := T) (some ⟨w3.heap.size, 0, none⟩) 1 1 [12] hI (by omega) (fun g hg => hT g (by omega))
      clear e hI
      refine hq.mono ?_
      rintro e w' ⟨hb, hif⟩
      have hnb : newB [12] = true := by decide
      rw [if_pos hnb] at hif
      obtain ⟨A', c', gs', h1, h2, h3⟩ := hif
      exact ⟨hb, A', c', gs', h1, h2, h3⟩)
    have hgc := fun w1 T D AD N rs (hz : Dz W w1 T 0 D AD N rs) (x : Int) => hGet_any x first size (ht.below hz.bel) hz.dk
    have HGC := Lib.hid hgc
    have HR3 := Lib.hid (fun A4 A5 c4 c5 w1 m (l4 : List Int) (h4 : Ints6 w1 A4 m l4) (h5 : Ints6 w1 A5 m l4) (hm : l4.length ≤ 4) => r3Ints_z l4 A4 A5 m c4 c5 w1 h4.len h4.reads h5.reads (by have := h4.len; omega))
    have HE0 : Hid (0 < n → ∃ b off, A = some ⟨b, off, none⟩ ∧ ∀ k x, l[k]? = some x → ∀ w5, Below W.heap.size W w5 → w5.cell? ⟨b, off + k * 2, none⟩ = some (.int .i64 x.p) ∧ w5.cell? ⟨b, off + k * 2 + 1, none⟩ = some (.slice x.h.a x.h.n x.h.c)) := Lib.hid (fun h0 => by
      obtain ⟨b, off, e, hlt, hc⟩ := h.reads h0
      exact ⟨b, off, e, fun k x hx w5 b5 => ⟨cell_below (hc k x hx).1 b5, cell_below (hc k x hx).2 b5⟩⟩)
    have HLN := Lib.hid h.len
    have HEA := Lib.hid h.each
    clear h ht hgc
    go_enter Tryd.func4, Tryd.ntmps4
    go_wp2_with (first
      | (go_at_call 8; (with_reducible refine HAW.out.mono ?_); rintro e w1 ⟨rfl, b1⟩; have B1 := Lib.hid b1; obtain ⟨X2, hX2⟩ : ∃ X2, w1.alloc (.cells #[.int .i64 12] 3) = X2 := ⟨_, rfl⟩; have HX2 := Lib.hid hX2; clear b1 hX2)
      | (go_at_call 14; go_loud ((try rw [HX2.out]); (with_reducible refine (HNW.out _ B1.out _ HX2.out).mono ?_); rintro e w3 ⟨D, AD, T3, rfl, hz3, _, _⟩; have Z3 := Lib.hid hz3; obtain ⟨X3, hX3⟩ : ∃ X3, w3.alloc (.cells #[.int .i64 12] 3) = X3 := ⟨_, rfl⟩; have HX3 := Lib.hid hX3; have Z3b := Lib.hid (hz3.below (hX3 ▸ (Below.refl _ w3).alloc (Nat.le_refl _) _)); clear hz3 hX3))
      | (go_at_call 15; go_loud ((try rw [HX3.out]); (with_reducible refine (HRN.out _ T3 (fun g hg => Z3.out.lo.un hg) _ HX3.out).mono ?_); rintro e w4 ⟨b4, A4, c4, gs4, rfl, hg4, hr4⟩; have Z4 := Lib.hid (Z3b.out.below b4); have G4 := Lib.hid hg4; have R4 := Lib.hid hr4; clear b4 hg4 hr4)))
    go_loopw [10, 12] (fun v i wr => ∃ (k : Nat) (T' : Tg) (rs : List Rg) (A1 : Option Addr) (c1 : Nat) (gs : List Gx), k ≤ n ∧ i = .int .i64 (k : Int) ∧ v = .slice A1 1 c1 ∧ Dz W wr T' 0 D AD k rs ∧ GA wr T' A1 1 c1 gs ∧ rgs gs = rs) (fun _ i _ => n - (intOf i).toNat)
    case atStart => exact ⟨0, T3, _, A4, c4, gs4, Nat.zero_le _, rfl, rfl, Z4.out, G4.out, R4.out⟩
    case round =>
      obtain ⟨k, T', rs, A1, c1, gs, hk, rfl, rfl, hz, hga, hrs⟩ := hrel
      have Z := Lib.hid hz
      have G := Lib.hid hga
      have RS := Lib.hid hrs
      clear hz hga hrs
      by_cases hlt : k < n
      · obtain ⟨b, off, rfl, hel⟩ := HE0.out (by omega)
        have hkl : k < l.length := by rw [← HLN.out]; exact hlt
        have hel := hel k l[k] (List.getElem?_eq_getElem hkl)
        have hea := HEA.out _ (List.getElem_mem hkl)
        obtain ⟨px, ⟨ya, yn, yc, yl⟩, hyx⟩ : ∃ px y, l[k] = ⟨px, y⟩ := ⟨_, _, rfl⟩
        rw [hyx] at hel hea
        simp only at hel hea
        have HEL := Lib.hid hel
        have HWR : Hid (∀ w5, Below wr.heap.size wr w5 → Calls Tryd.prog 16 #[.pointer (some ⟨D, 0, none⟩), .int .i64 0, .int .i64 px, .slice ya yn yc] w5 (DkEnd (.int .i64 (wrA rs 0 px yl).2) T' 0 D AD (wrA rs 0 px yl).1 w5)) := Lib.hid (fun w5 b5 => by
          have hz5 := Z.out.below b5
          have ha5 := (hea.below hz5.bel)
          refine Write_gen 0 px yl ya yn yc hz5.dk hz5.lo.lt ha5.len ha5.reads ha5.room (fun h128 a ha j hj => ?_) (fun r hr => Nat.le_trans (hz5.few r hr) (by omega))
          have h1 := hea.old (by rw [hea.len]; omega) a ha
          have h2 := (hz5.lo _ _ hj).1
          omega)
        have HZN : Hid (∀ w5 T5, Dk w5 T5 0 D AD (wrA rs 0 px yl).1 → Tn T' 0 wr.drew T5 w5 → Dz W w5 T5 0 D AD (k + 1) (wrA rs 0 px yl).1) := Lib.hid (fun w5 T5 hd ht => (Z.out.below (Below.refl _ wr).drew).next ht hd (few_wrA Z.out.few 0 px yl))
        have HGA : Hid (∀ w5 T5, Tn T' 0 wr.drew T5 w5 → GA w5 T5 A1 1 c1 gs) := Lib.hid (fun w5 T5 ht => (G.out.below (Below.refl _ wr).drew).tn ht)
        have hSd : (fun w' : World => w'.cell? ⟨b, off + k * 2, none⟩ = some (.int .i64 px) ∧ w'.cell? ⟨b, off + k * 2 + 1, none⟩ = some (.slice ya yn yc)) wr.drew := hel wr Z.out.bel
        have hkI : (k : Int) < (n : Int) := by omega
        have hk0 : (0 : Int) ≤ (k : Int) := by omega
        have HYA := Lib.hid hea
        obtain ⟨er6, her6⟩ : ∃ er6, (wrA rs 0 px yl).2 = er6 := ⟨_, rfl⟩
        have HER := Lib.hid her6
        clear hel hyx hkl hea her6
        go_wp2
        rename_i K hK
        refine wp_held (fun w' : World => w'.cell? ⟨b, off + k * 2, none⟩ = some (.int .i64 px) ∧ w'.cell? ⟨b, off + k * 2 + 1, none⟩ = some (.slice ya yn yc)) K hmx ?_ (fun _ _ h => h)
        refine wpAnyH_take (i := 0) (v := .pointer (some ⟨D, 0, none⟩)) rfl (by kernel_rfl) (by kernel_rfl) (by kernel_rfl) (fun _ _ _ h => h) (Or.inl ⟨by rfl, ?_⟩) hSd ?_
        · rintro w6 ⟨k1, k2⟩
          go_simp
        simp only [Act.put, List.setIfInBounds_toArray, List.set_cons_zero, List.set_cons_succ, List.getElem_toArray, List.getElem_cons_zero]
        refine wpAnyH_take (i := 1) (v := .slice (some ⟨b, off, none⟩) n c) rfl (by kernel_rfl) (by kernel_rfl) (by kernel_rfl) (fun _ _ _ h => h) (Or.inl ⟨by rfl, ?_⟩) hSd ?_
        · rintro w6 ⟨k1, k2⟩
          go_simp
        simp only [Act.put, List.setIfInBounds_toArray, List.set_cons_zero, List.set_cons_succ, List.getElem_toArray, List.getElem_cons_zero, List.getElem_cons_succ]
        refine wpAnyH_take (i := 2) (v := .int .i64 (k : Int)) rfl (by kernel_rfl) (by kernel_rfl) (by kernel_rfl) (fun _ _ _ h => h) (Or.inl ⟨by rfl, ?_⟩) hSd ?_
        · rintro w6 ⟨k1, k2⟩
          go_simp
        simp only [Act.put, List.setIfInBounds_toArray, List.set_cons_zero, List.set_cons_succ, List.getElem_toArray, List.getElem_cons_zero, List.getElem_cons_succ]
        refine wpAnyH_take (i := 3) (v := .pointer (some ⟨b, off + k * 2, none⟩)) rfl (by kernel_rfl) (by kernel_rfl) (by kernel_rfl) (fun _ _ _ h => h) (Or.inl ⟨by rfl, ?_⟩) hSd ?_
        · rintro w6 ⟨k1, k2⟩
          go_simp
        simp only [Act.put, List.setIfInBounds_toArray, List.set_cons_zero, List.set_cons_succ, List.getElem_toArray, List.getElem_cons_zero, List.getElem_cons_succ]
        refine wpAnyH_take (i := 4) (v := .pointer (some ⟨b, off + k * 2, none⟩)) rfl (by kernel_rfl) (by kernel_rfl) (by kernel_rfl) (fun _ _ _ h => h) (Or.inl ⟨by rfl, ?_⟩) hSd ?_
        · rintro w6 ⟨k1, k2⟩
          go_simp
        simp only [Act.put, List.setIfInBounds_toArray, List.set_cons_zero, List.set_cons_succ, List.getElem_toArray, List.getElem_cons_zero, List.getElem_cons_succ]
        refine wpAnyH_take (i := 5) (v := .int .i64 px) rfl (by kernel_rfl) (by kernel_rfl) (by kernel_rfl) (fun _ _ _ h => h) (Or.inl ⟨by rfl, ?_⟩) hSd ?_
        · rintro w6 ⟨k1, k2⟩
          go_simp
        simp only [Act.put, List.setIfInBounds_toArray, List.set_cons_zero, List.set_cons_succ, List.getElem_toArray, List.getElem_cons_zero, List.getElem_cons_succ]
        refine wpAnyH_take (i := 6) (v := .slice (some ⟨b, off, none⟩) n c) rfl (by kernel_rfl) (by kernel_rfl) (by kernel_rfl) (fun _ _ _ h => h) (Or.inl ⟨by rfl, ?_⟩) hSd ?_
        · rintro w6 ⟨k1, k2⟩
          go_simp
        simp only [Act.put, List.setIfInBounds_toArray, List.set_cons_zero, List.set_cons_succ, List.getElem_toArray, List.getElem_cons_zero, List.getElem_cons_succ]
        refine wpAnyH_take (i := 7) (v := .int .i64 (k : Int)) rfl (by kernel_rfl) (by kernel_rfl) (by kernel_rfl) (fun _ _ _ h => h) (Or.inl ⟨by rfl, ?_⟩) hSd ?_
        · rintro w6 ⟨k1, k2⟩
          go_simp
        simp only [Act.put, List.setIfInBounds_toArray, List.set_cons_zero, List.set_cons_succ, List.getElem_toArray, List.getElem_cons_zero, List.getElem_cons_succ]
        refine wpAnyH_take (i := 8) (v := .pointer (some ⟨b, off + k * 2, none⟩)) rfl (by kernel_rfl) (by kernel_rfl) (by kernel_rfl) (fun _ _ _ h => h) (Or.inl ⟨by rfl, ?_⟩) hSd ?_
        · rintro w6 ⟨k1, k2⟩
          go_simp
        simp only [Act.put, List.setIfInBounds_toArray, List.set_cons_zero, List.set_cons_succ, List.getElem_toArray, List.getElem_cons_zero, List.getElem_cons_succ]
        refine wpAnyH_take (i := 9) (v := .pointer (some ⟨b, off + k * 2 + 1, none⟩)) rfl (by kernel_rfl) (by kernel_rfl) (by kernel_rfl) (fun _ _ _ h => h) (Or.inl ⟨by rfl, ?_⟩) hSd ?_
        · rintro w6 ⟨k1, k2⟩
          go_simp
        simp only [Act.put, List.setIfInBounds_toArray, List.set_cons_zero, List.set_cons_succ, List.getElem_toArray, List.getElem_cons_zero, List.getElem_cons_succ]
        refine wpAnyH_take (i := 10) (v := .slice ya yn yc) rfl (by kernel_rfl) (by kernel_rfl) (by kernel_rfl) (fun _ _ _ h => h) (Or.inl ⟨by rfl, ?_⟩) hSd ?_
        · rintro w6 ⟨k1, k2⟩
          go_simp
        simp only [Act.put, List.setIfInBounds_toArray, List.set_cons_zero, List.set_cons_succ, List.getElem_toArray, List.getElem_cons_zero, List.getElem_cons_succ]
        refine wpAnyH_ready (rs := [11]) (by kernel_rfl) (by simp) ?_
        refine AllReadyH.cons rfl (fun K5 hK5 => ?_) AllReadyH.nil
        go_simp
        go_at_call 16
        refine (HWR.out _ (Below.refl _ _).drew).mono ?_
        rintro e5 w5 ⟨rfl, T5, hd5, t5⟩
        have Z5 := Lib.hid (HZN.out w5 T5 hd5 t5)
        have G5 := Lib.hid (HGA.out w5 T5 t5)
        have hS5 : w5.cell? ⟨b, off + k * 2, none⟩ = some (.int .i64 px) ∧ w5.cell? ⟨b, off + k * 2 + 1, none⟩ = some (.slice ya yn yc) := HEL.out w5 Z5.out.bel
        clear hd5 t5
        refine hK5.out _ _ hS5 (fun _ => ?_)
        clear hK5 K5
        refine wpAnyH_done (by kernel_rfl) ?_ _
        refine hK _ _ ?_
        have hya5 := HYA.out.below Z5.out.bel
        have hgl : gs.length = 1 := G.out.len.symm
        have hrw := r6Write_any 0 px yl (G5.out.below (Below.refl _ w5).drew) (by omega) (fun r hr => by
          rw [RS.out] at hr
          have := Z.out.few r hr
          omega) (fun g hg => Z5.out.lo.un hg) (by have h1 := hya5.room; have h2 := hya5.most; have h3 := hya5.len; unfold maxLen at h2; omega)
        rw [RS.out] at hrw
        have hcv := run_string_of (P := Tryd.prog) w5.drew 31 9 5 Tryd.underlying31 Tryd.underlying5 Tryd.underlying9 (cap := yc) hya5.len hya5.reads
        unfold txtV GeEnd at hrw
        rw [HER.out] at hrw
        generalize (⟨yl.toArray⟩ : ByteArray) = yb at hcv hrw
        have HRW := Lib.hid hrw
        have hSd2 : (fun w' : World => w'.cell? ⟨b, off + k * 2, none⟩ = some (.int .i64 px) ∧ w'.cell? ⟨b, off + k * 2 + 1, none⟩ = some (.slice ya yn yc)) w5.drew := hS5
        clear hrw hya5 hgl
        go_wp2
        rename_i K2 hK2 hx2_
        refine wp_heldHQ (fun w' : World => w'.cell? ⟨b, off + k * 2, none⟩ = some (.int .i64 px) ∧ w'.cell? ⟨b, off + k * 2 + 1, none⟩ = some (.slice ya yn yc)) hmx ?_
        refine wpAnyH_take (i := 0) (v := .slice A1 1 c1) rfl (by kernel_rfl) (by kernel_rfl) (by kernel_rfl) (fun _ _ _ h => h) (Or.inl ⟨by rfl, ?_⟩) hSd2 ?_
        · rintro w6 ⟨k1, k2⟩
          go_simp
        simp only [Act.put, List.setIfInBounds_toArray, List.set_cons_zero, List.set_cons_succ, List.getElem_toArray, List.getElem_cons_zero]
        refine wpAnyH_take (i := 1) (v := .slice (some ⟨b, off, none⟩) n c) rfl (by kernel_rfl) (by kernel_rfl) (by kernel_rfl) (fun _ _ _ h => h) (Or.inl ⟨by rfl, ?_⟩) hSd2 ?_
        · rintro w6 ⟨k1, k2⟩
          go_simp
        simp only [Act.put, List.setIfInBounds_toArray, List.set_cons_zero, List.set_cons_succ, List.getElem_toArray, List.getElem_cons_zero, List.getElem_cons_succ]
        refine wpAnyH_take (i := 2) (v := .int .i64 (k : Int)) rfl (by kernel_rfl) (by kernel_rfl) (by kernel_rfl) (fun _ _ _ h => h) (Or.inl ⟨by rfl, ?_⟩) hSd2 ?_
        · rintro w6 ⟨k1, k2⟩
          go_simp
        simp only [Act.put, List.setIfInBounds_toArray, List.set_cons_zero, List.set_cons_succ, List.getElem_toArray, List.getElem_cons_zero, List.getElem_cons_succ]
        refine wpAnyH_take (i := 3) (v := .pointer (some ⟨b, off + k * 2, none⟩)) rfl (by kernel_rfl) (by kernel_rfl) (by kernel_rfl) (fun _ _ _ h => h) (Or.inl ⟨by rfl, ?_⟩) hSd2 ?_
        · rintro w6 ⟨k1, k2⟩
          go_simp
        simp only [Act.put, List.setIfInBounds_toArray, List.set_cons_zero, List.set_cons_succ, List.getElem_toArray, List.getElem_cons_zero, List.getElem_cons_succ]
        refine wpAnyH_take (i := 4) (v := .pointer (some ⟨b, off + k * 2, none⟩)) rfl (by kernel_rfl) (by kernel_rfl) (by kernel_rfl) (fun _ _ _ h => h) (Or.inl ⟨by rfl, ?_⟩) hSd2 ?_
        · rintro w6 ⟨k1, k2⟩
          go_simp
        simp only [Act.put, List.setIfInBounds_toArray, List.set_cons_zero, List.set_cons_succ, List.getElem_toArray, List.getElem_cons_zero, List.getElem_cons_succ]
        refine wpAnyH_take (i := 5) (v := .int .i64 px) rfl (by kernel_rfl) (by kernel_rfl) (by kernel_rfl) (fun _ _ _ h => h) (Or.inl ⟨by rfl, ?_⟩) hSd2 ?_
        · rintro w6 ⟨k1, k2⟩
          go_simp
        simp only [Act.put, List.setIfInBounds_toArray, List.set_cons_zero, List.set_cons_succ, List.getElem_toArray, List.getElem_cons_zero, List.getElem_cons_succ]
        refine wpAnyH_take (i := 6) (v := .slice (some ⟨b, off, none⟩) n c) rfl (by kernel_rfl) (by kernel_rfl) (by kernel_rfl) (fun _ _ _ h => h) (Or.inl ⟨by rfl, ?_⟩) hSd2 ?_
        · rintro w6 ⟨k1, k2⟩
          go_simp
        simp only [Act.put, List.setIfInBounds_toArray, List.set_cons_zero, List.set_cons_succ, List.getElem_toArray, List.getElem_cons_zero, List.getElem_cons_succ]
        refine wpAnyH_take (i := 7) (v := .int .i64 (k : Int)) rfl (by kernel_rfl) (by kernel_rfl) (by kernel_rfl) (fun _ _ _ h => h) (Or.inl ⟨by rfl, ?_⟩) hSd2 ?_
        · rintro w6 ⟨k1, k2⟩
          go_simp
        simp only [Act.put, List.setIfInBounds_toArray, List.set_cons_zero, List.set_cons_succ, List.getElem_toArray, List.getElem_cons_zero, List.getElem_cons_succ]
        refine wpAnyH_take (i := 8) (v := .pointer (some ⟨b, off + k * 2, none⟩)) rfl (by kernel_rfl) (by kernel_rfl) (by kernel_rfl) (fun _ _ _ h => h) (Or.inl ⟨by rfl, ?_⟩) hSd2 ?_
        · rintro w6 ⟨k1, k2⟩
          go_simp
        simp only [Act.put, List.setIfInBounds_toArray, List.set_cons_zero, List.set_cons_succ, List.getElem_toArray, List.getElem_cons_zero, List.getElem_cons_succ]
        refine wpAnyH_take (i := 9) (v := .pointer (some ⟨b, off + k * 2 + 1, none⟩)) rfl (by kernel_rfl) (by kernel_rfl) (by kernel_rfl) (fun _ _ _ h => h) (Or.inl ⟨by rfl, ?_⟩) hSd2 ?_
        · rintro w6 ⟨k1, k2⟩
          go_simp
        simp only [Act.put, List.setIfInBounds_toArray, List.set_cons_zero, List.set_cons_succ, List.getElem_toArray, List.getElem_cons_zero, List.getElem_cons_succ]
        refine wpAnyH_take (i := 10) (v := .slice ya yn yc) rfl (by kernel_rfl) (by kernel_rfl) (by kernel_rfl) (fun _ _ _ h => h) (Or.inl ⟨by rfl, ?_⟩) hSd2 ?_
        · rintro w6 ⟨k1, k2⟩
          go_simp
        simp only [Act.put, List.setIfInBounds_toArray, List.set_cons_zero, List.set_cons_succ, List.getElem_toArray, List.getElem_cons_zero, List.getElem_cons_succ]
        refine wpAnyH_ready (rs := [11]) (by kernel_rfl) (by simp) ?_
        refine AllReadyH.cons rfl (fun K5 hK5 => ?_) AllReadyH.nil
        go_simp
        (try rw [hcv])
        (try go_simp)
        refine hK5.out _ _ hSd2 (fun _ => ?_)
        clear hK5 K5
        refine wpAnyH_ready (rs := [12]) (by kernel_rfl) (by simp) ?_
        refine AllReadyH.cons rfl (fun K5 hK5 => ?_) AllReadyH.nil
        go_simp
        go_at_call 17
        refine HRW.out.mono ?_
        rintro e6 w6 ⟨A6, c6, gs6, rfl, g6, q6, b6⟩
        have G6 := Lib.hid g6
        have Q6 := Lib.hid q6
        have Z6 := Lib.hid (Z5.out.below ((Below.refl _ w5).drew.trans b6))
        have hS6 : w6.cell? ⟨b, off + k * 2, none⟩ = some (.int .i64 px) ∧ w6.cell? ⟨b, off + k * 2 + 1, none⟩ = some (.slice ya yn yc) := HEL.out w6 Z6.out.bel
        clear g6 q6 b6
        refine hK5.out _ _ hS6 (fun _ => ?_)
        clear hK5 K5
        refine wpAnyH_take (i := 13) (v := .tuple #[.slice A6 1 c6, .int .i64 er6]) rfl (by kernel_rfl) (by kernel_rfl) (by kernel_rfl) (fun _ _ _ h => h) (Or.inl ⟨by rfl, ?_⟩) hS6 ?_
        · rintro w6 ⟨k1, k2⟩
          go_simp
        simp only [Act.put, List.setIfInBounds_toArray, List.set_cons_zero, List.set_cons_succ, List.getElem_toArray, List.getElem_cons_zero, List.getElem_cons_succ]
        refine wpAnyH_take (i := 14) (v := .slice A6 1 c6) rfl (by kernel_rfl) (by kernel_rfl) (by kernel_rfl) (fun _ _ _ h => h) (Or.inl ⟨by rfl, ?_⟩) hS6 ?_
        · rintro w6 ⟨k1, k2⟩
          go_simp
        simp only [Act.put, List.setIfInBounds_toArray, List.set_cons_zero, List.set_cons_succ, List.getElem_toArray, List.getElem_cons_zero, List.getElem_cons_succ]
        refine wpAnyH_take (i := 15) (v := .int .i64 er6) rfl (by kernel_rfl) (by kernel_rfl) (by kernel_rfl) (fun _ _ _ h => h) (Or.inl ⟨by rfl, ?_⟩) hS6 ?_
        · rintro w6 ⟨k1, k2⟩
          go_simp
        simp only [Act.put, List.setIfInBounds_toArray, List.set_cons_zero, List.set_cons_succ, List.getElem_toArray, List.getElem_cons_zero, List.getElem_cons_succ]
        refine wpAnyH_take (i := 16) (v := .slice A6 1 c6) rfl (by kernel_rfl) (by kernel_rfl) (by kernel_rfl) (fun _ _ _ h => h) (Or.inl ⟨by rfl, ?_⟩) hS6 ?_
        · rintro w6 ⟨k1, k2⟩
          go_simp
        simp only [Act.put, List.setIfInBounds_toArray, List.set_cons_zero, List.set_cons_succ, List.getElem_toArray, List.getElem_cons_zero, List.getElem_cons_succ]
        refine wpAnyH_done (by kernel_rfl) ?_ _
        refine hK2 _ _ ?_
        go_wp2
        go_roundw
        case rel => exact ⟨k + 1, T5, _, A6, c6, gs6, by omega, by go_num, rfl, Z6.out, G6.out, Q6.out⟩
        case measure => simp [intOf]; omega
      · obtain rfl : k = n := by omega
        obtain ⟨R0, hR0⟩ : ∃ R0, getC (fun p => (rdL rs 0 p, rdE rs 0 p)) size first = R0 := ⟨_, rfl⟩
        obtain ⟨R1, hR1⟩ : ∃ R1, getC (fun p => (rdL rs 1 p, rdE rs 1 p)) size first = R1 := ⟨_, rfl⟩
        have hm0 : R0.2.1.length ≤ 4 := by rw [← hR0]; exact getC_few _ _ _
        have hfew : ∀ r ∈ rgs gs, r.loose.length ≤ 1000 := fun r hr => by
          rw [RS.out] at hr
          have := Z.out.few r hr
          omega
        have HG0 : Hid (∀ w5, Below wr.heap.size wr w5 → Calls Tryd.prog 18 #[.pointer (some ⟨D, 0, none⟩), .int .i64 0, .int .i64 first, .int .i64 size] w5 (GetEnd R0 w5)) := Lib.hid (fun w5 b5 => by rw [← hR0]; exact HGC.out w5 T' D AD _ rs (Z.out.below b5) 0)
        have HG1 : Hid (∀ w5, Below wr.heap.size wr w5 → Calls Tryd.prog 18 #[.pointer (some ⟨D, 0, none⟩), .int .i64 1, .int .i64 first, .int .i64 size] w5 (GetEnd R1 w5)) := Lib.hid (fun w5 b5 => by rw [← hR1]; exact HGC.out w5 T' D AD _ rs (Z.out.below b5) 1)
        have HN0 : Hid (∀ w5, Below wr.heap.size wr w5 → Calls Tryd.prog 19 #[.slice A1 1 c1, .int .i64 0, .int .i64 first, .int .i64 size] w5 (GetEnd R0 w5)) := Lib.hid (fun w5 b5 => by rw [← hR0, ← RS.out]; exact r9Get_any 0 first size (G.out.below b5) hfew)
        have HN1 : Hid (∀ w5, Below wr.heap.size wr w5 → Calls Tryd.prog 19 #[.slice A1 1 c1, .int .i64 1, .int .i64 first, .int .i64 size] w5 (GetEnd R1 w5)) := Lib.hid (fun w5 b5 => by rw [← hR1, ← RS.out]; exact r9Get_any 1 first size (G.out.below b5) hfew)
        obtain ⟨s0, l0, e0⟩ := R0
        obtain ⟨s1, l1, e1⟩ := R1
        unfold GetEnd at HG0 HG1 HN0 HN1
        simp only at HG0 HG1 HN0 HN1 hm0
        generalize (⟨s0.toArray⟩ : ByteArray) = sb0 at HG0 HN0
        generalize (⟨s1.toArray⟩ : ByteArray) = sb1 at HG1 HN1
        have HM0 := Lib.hid hm0
        obtain ⟨wx, hwx⟩ : ∃ wx : World, wx = wr := ⟨_, rfl⟩
        subst hwx
        have HBX := Lib.hid Z.out.bel
        clear hR0 hR1 hm0 hfew
        go_wp2_with (first
          | (go_at_call 18; (with_reducible refine (HG0.out _ (Below.refl _ _)).mono ?_); rintro e w5 ⟨A5, n5, c5, rfl, hi5, b5⟩; have hn5 := hi5.len; subst hn5; have I5 := Lib.hid hi5; have B5 := Lib.hid b5; clear hi5 b5)
          | (go_at_call 19; (with_reducible refine (HN0.out _ B5.out).mono ?_); rintro e w6 ⟨A6, n6, c6, rfl, hi6, b6⟩; have hn6 := hi6.len; subst hn6; have I6 := Lib.hid hi6; have I5b := Lib.hid (I5.out.below9 b6); have B6 := Lib.hid (below_step B5.out b6); clear hi6 b6)
          | (go_at_call 18; (with_reducible refine (HG1.out _ B6.out).mono ?_); rintro e w7 ⟨A7, n7, c7, rfl, _, b7⟩; have I6b := Lib.hid (I6.out.below9 b7); have I5c := Lib.hid (I5b.out.below9 b7); have B7 := Lib.hid (below_step B6.out b7); clear b7)
          | (go_at_call 19; (with_reducible refine (HN1.out _ B7.out).mono ?_); rintro e w8 ⟨A8, n8, c8, rfl, _, b8⟩; have I6c := Lib.hid (I6b.out.below9 b8); have I5d := Lib.hid (I5c.out.below9 b8); have B8 := Lib.hid (below_step HBX.out (below_step B7.out b8)); clear b8)
          | (go_at_call 20; go_loud ((with_reducible refine (HR3.out _ _ _ _ _ _ _ I5d.out I6c.out HM0.out).mono ?_); rintro e w9 ⟨rfl, b9⟩; have B9 := Lib.hid (below_step B8.out b9); clear b9)))
        go_ret
        exact ⟨retb (by simp), B9.out⟩

end Go.Proofs.YtdoabcbembinjaaDoor
end
