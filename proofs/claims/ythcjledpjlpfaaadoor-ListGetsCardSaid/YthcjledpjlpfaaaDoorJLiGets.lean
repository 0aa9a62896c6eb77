import Derived.Test.YthcjledpjlpfaaaDoorJ18
import Derived.Test.YthcjledpjlpfaaaDoorJ11
/- Of a claim's texts, joined: LiGets. No statement but in the last. -/
namespace Go.Proofs.YthcjledpjlpfaaaDoor
open Go.RowKit
set_option linter.unusedVariables false

theorem getLs_few {rd : Int → List UInt8 × Int} : ∀ (f : Nat) (p : Int) (l a : List Int), a.length + f ≤ 1001 → l.length ≤ 59 * a.length → (getLs rd f p l a).1.length ≤ 60000 ∧ (getLs rd f p l a).2.1.length ≤ 60000
  | 0, p, l, a, h, hl => by
    rw [getLs]
    exact ⟨by show l.length ≤ 60000; omega, by show a.length ≤ 60000; omega⟩
  | f + 1, p, l, a, h, hl => by
    rw [getLs]
    split
    · simp
    · split
      · simp
      · split
        · simp
        · split
          · simp
          · rename_i hb
            have hlen : (l ++ restL (rd p).1).length ≤ 59 * (a ++ [p]).length := by
              rw [List.length_append, List.length_append, List.length_singleton]
              unfold badNum at hb
              have : ¬ 59 < (restL (rd p).1).length := fun h => hb (Or.inl h)
              omega
            have hal : (a ++ [p]).length = a.length + 1 := by simp
            split
            · exact ⟨by show (l ++ restL (rd p).1).length ≤ 60000; omega, by show (a ++ [p]).length ≤ 60000; omega⟩
            · split
              · simp
              · exact getLs_few f _ _ _ (by omega) hlen
theorem getL_few (rd : Int → List UInt8 × Int) (p : Int) : (getL rd p).1.length ≤ 60000 ∧ (getL rd p).2.1.length ≤ 60000 := by
  unfold getL
  split
  · simp
  · exact getLs_few 1001 p [] [] (by simp) (by simp)
theorem wrA_size {rs : List Rg} (h : ∀ r ∈ rs, r.size ≤ 1000) (x p : Int) (b : List UInt8) : ∀ r ∈ (wrA rs x p b).1, r.size ≤ 1000 := by
  unfold wrA
  split
  · exact h
  · rename_i r hr
    have hm := h r (List.mem_of_getElem? (regN_some hr).2.2)
    have hs : ∀ r' : Rg, r'.size = r.size → ∀ q ∈ rs.set x.toNat r', q.size ≤ 1000 := fun r' e q hq => by
      rcases List.mem_or_eq_of_mem_set hq with hq | rfl
      · exact h q hq
      · rw [e]
        exact hm
    split
    · exact h
    · split
      · split
        · split
          · exact hs _ (cntR_size r)
          · exact hs _ (cntR_size r)
        · exact h
      · exact h
set_option maxRecDepth 100000 in
set_option maxHeartbeats 8000000 in
theorem walkLiGets (A : Option Addr) (n c : Nat) (l : List Wq) (first : Int) (W : World) (ht : Tab W) (h : WrsA W A n l) (hnI : n ≤ 9223372036854775807) :
    Calls Tryd.prog 4 #[.slice A n c, .int .i64 first] W fun e W' => e = .returned (.bool true) ∧ Below W.heap.size W W' := by
  have hmx : Tryd.prog.follows .mixedOrders = true := by kernel_rfl
  have HAW := Lib.hid (awake11_any W ht)
  by_cases hn : 20 < n
  · have hnI' : (20 : Int) < (n : Int) := by omega
    clear h
    go_enter Tryd.func4, Tryd.ntmps4
    go_wp2_with (go_at_call 8; (with_reducible refine HAW.out.mono ?_); rintro e w1 ⟨rfl, b1⟩; have B1 := Lib.hid b1; clear b1)
    go_ret
    exact ⟨rfl, B1.out⟩
  · have hn20 : ¬ (20 : Int) < (n : Int) := by omega
    have HNW : Hid (∀ w2, Below W.heap.size W w2 → ∀ X2, w2.alloc (.cells #[.int .i64 12] 3) = X2 → Calls Tryd.prog 16 #[.slice (some ⟨w2.heap.size, 0, none⟩) 1 1] X2 fun e w' => ∃ D A T', e = .returned (.tuple #[.pointer (some ⟨D, 0, none⟩), .int .i64 0]) ∧ Dz W w' T' 0 D A 0 [fresh6 12] ∧ Tn noT 0 X2 T' w' ∧ Below X2.heap.size X2 w') := Lib.hid (fun w2 b X2 e => by
      subst e
      exact New_z (w0 := W) (c := 1) 0 (ints_lit w2 [12] _ rfl) (lo_none _ _) (b.alloc b.size _) (by decide))
    have HRN : Hid (∀ (w3 : World) (T : Tg), (∀ g, w3.heap.size ≤ g → T g = none) → ∀ X3, w3.alloc (.cells #[.int .i64 12] 3) = X3 → Calls Tryd.prog 17 #[.slice (some ⟨w3.heap.size, 0, none⟩) 1 1] X3 fun e w' => Below X3.heap.size X3 w' ∧ ∃ A' c' gs', e = .returned (.tuple #[.slice A' 1 c', .int .i64 0]) ∧ GA w' T A' 1 c' gs' ∧ rgs gs' = [fresh6 12]) := Lib.hid (fun w3 T hT X3 e => by
      have hI : Ints6 X3 (some ⟨w3.heap.size, 0, none⟩) 1 [12] := e ▸ ints_lit w3 [12] _ rfl
      have hsz : w3.heap.size ≤ X3.heap.size := by rw [← e, World.size_alloc]; omega
      have hq : Calls Tryd.prog 17 #[.slice (some ⟨w3.heap.size, 0, none⟩) 1 1] X3 (NwEnd T [12] 1 X3) := r6New_any (w := X3) (T := T) (some ⟨w3.heap.size, 0, none⟩) 1 1 [12] hI (by omega) (fun g hg => hT g (by omega))
      clear e hI
      refine hq.mono ?_
      rintro e w' ⟨hb, hif⟩
      have hnb : newB [12] = true := by decide
      rw [if_pos hnb] at hif
      obtain ⟨A', c', gs', h1, h2, h3⟩ := hif
      exact ⟨hb, A', c', gs', h1, h2, h3⟩)
    have hgc := fun w1 T D AD N rs (hz : Dz W w1 T 0 D AD N rs) (hs : ∀ r ∈ rs, r.size ≤ 1000) (x : Int) => fGet_any x first (ht.below hz.bel) hz.dk (rdE_in hs)
    have HGC := Lib.hid hgc
    have HR3 := Lib.hid (fun A4 A5 c4 c5 w1 m (l4 : List Int) (h4 : Ints6 w1 A4 m l4) (h5 : Ints6 w1 A5 m l4) (hm : l4.length ≤ 60000) => r3Ints_z l4 A4 A5 m c4 c5 w1 h4.len h4.reads h5.reads (by have := h4.len; omega))
    have HE0 : Hid (0 < n → ∃ b off, A = some ⟨b, off, none⟩ ∧ ∀ k x, l[k]? = some x → ∀ w5, Below W.heap.size W w5 → w5.cell? ⟨b, off + k * 2, none⟩ = some (.int .i64 x.p) ∧ w5.cell? ⟨b, off + k * 2 + 1, none⟩ = some (.slice x.h.a x.h.n x.h.c)) := Lib.hid (fun h0 => by
      obtain ⟨b, off, e, hlt, hc⟩ := h.reads h0
      exact ⟨b, off, e, fun k x hx w5 b5 => ⟨cell_below (hc k x hx).1 b5, cell_below (hc k x hx).2 b5⟩⟩)
    have HLN := Lib.hid h.len
    have HEA := Lib.hid h.each
    clear h ht hgc
    go_enter Tryd.func4, Tryd.ntmps4
    go_wp2_with (first
      | (go_at_call 8; (with_reducible refine HAW.out.mono ?_); rintro e w1 ⟨rfl, b1⟩; have B1 := Lib.hid b1; obtain ⟨X2, hX2⟩ : ∃ X2, w1.alloc (.cells #[.int .i64 12] 3) = X2 := ⟨_, rfl⟩; have HX2 := Lib.hid hX2; clear b1 hX2)
      | (go_at_call 16; go_loud ((try rw [HX2.out]); (with_reducible refine (HNW.out _ B1.out _ HX2.out).mono ?_); rintro e w3 ⟨D, AD, T3, rfl, hz3, _, _⟩; have Z3 := Lib.hid hz3; obtain ⟨X3, hX3⟩ : ∃ X3, w3.alloc (.cells #[.int .i64 12] 3) = X3 := ⟨_, rfl⟩; have HX3 := Lib.hid hX3; have Z3b := Lib.hid (hz3.below (hX3 ▸ (Below.refl _ w3).alloc (Nat.le_refl _) _)); clear hz3 hX3))
      | (go_at_call 17; go_loud ((try rw [HX3.out]); (with_reducible refine (HRN.out _ T3 (fun g hg => Z3.out.lo.un hg) _ HX3.out).mono ?_); rintro e w4 ⟨b4, A4, c4, gs4, rfl, hg4, hr4⟩; have Z4 := Lib.hid (Z3b.out.below b4); have G4 := Lib.hid hg4; have R4 := Lib.hid hr4; clear b4 hg4 hr4)))
    go_loopw [8, 10] (fun v i wr => ∃ (k : Nat) (T' : Tg) (rs : List Rg) (A1 : Option Addr) (c1 : Nat) (gs : List Gx), k ≤ n ∧ i = .int .i64 (k : Int) ∧ v = .slice A1 1 c1 ∧ Dz W wr T' 0 D AD k rs ∧ GA wr T' A1 1 c1 gs ∧ rgs gs = rs ∧ (∀ r ∈ rs, r.size ≤ 1000)) (fun _ i _ => n - (intOf i).toNat)
    case atStart => exact ⟨0, T3, _, A4, c4, gs4, Nat.zero_le _, rfl, rfl, Z4.out, G4.out, R4.out, (by intro r hr; obtain rfl := List.mem_singleton.1 hr; show 12 ≤ 1000; decide)⟩
    case round =>
      obtain ⟨k, T', rs, A1, c1, gs, hk, rfl, rfl, hz, hga, hrs, hsz⟩ := hrel
      have Z := Lib.hid hz
      have G := Lib.hid hga
      have RS := Lib.hid hrs
      have SZ := Lib.hid hsz
      clear hz hga hrs hsz
      by_cases hlt : k < n
      · obtain ⟨b, off, rfl, hel⟩ := HE0.out (by omega)
        have hkl : k < l.length := by rw [← HLN.out]; exact hlt
        have hel := hel k l[k] (List.getElem?_eq_getElem hkl)
        have hea := HEA.out _ (List.getElem_mem hkl)
        obtain ⟨px, ⟨ya, yn, yc, yl⟩, hyx⟩ : ∃ px y, l[k] = ⟨px, y⟩ := ⟨_, _, rfl⟩
        rw [hyx] at hel hea
        simp only at hel hea
        have HEL := Lib.hid hel
        have HWR : Hid (∀ w5, Below wr.heap.size wr w5 → Calls Tryd.prog 18 #[.pointer (some ⟨D, 0, none⟩), .int .i64 0, .int .i64 px, .slice ya yn yc] w5 (DkEnd (.int .i64 (wrA rs 0 px yl).2) T' 0 D AD (wrA rs 0 px yl).1 w5)) := Lib.hid (fun w5 b5 => by
          have hz5 := Z.out.below b5
          have ha5 := (hea.below hz5.bel)
          refine Write_gen 0 px yl ya yn yc hz5.dk hz5.lo.lt ha5.len ha5.reads ha5.room (fun h128 a ha j hj => ?_) (fun r hr => Nat.le_trans (hz5.few r hr) (by omega))
          have h1 := hea.old (by rw [hea.len]; omega) a ha
          have h2 := (hz5.lo _ _ hj).1
          omega)
        have HZN : Hid (∀ w5 T5, Dk w5 T5 0 D AD (wrA rs 0 px yl).1 → Tn T' 0 wr.drew T5 w5 → Dz W w5 T5 0 D AD (k + 1) (wrA rs 0 px yl).1) := Lib.hid (fun w5 T5 hd ht => (Z.out.below (Below.refl _ wr).drew).next ht hd (few_wrA Z.out.few 0 px yl))
        have HGA : Hid (∀ w5 T5, Tn T' 0 wr.drew T5 w5 → GA w5 T5 A1 1 c1 gs) := Lib.hid (fun w5 T5 ht => (G.out.below (Below.refl _ wr).drew).tn ht)
        have hSd : (fun w' : World => w'.cell? ⟨b, off + k * 2, none⟩ = some (.int .i64 px) ∧ w'.cell? ⟨b, off + k * 2 + 1, none⟩ = some (.slice ya yn yc)) wr.drew := hel wr Z.out.bel
        have hkI : (k : Int) < (n : Int) := by omega
        have hk0 : (0 : Int) ≤ (k : Int) := by omega
        have HYA := Lib.hid hea
        obtain ⟨er6, her6⟩ : ∃ er6, (wrA rs 0 px yl).2 = er6 := ⟨_, rfl⟩
        have HER := Lib.hid her6
        clear hel hyx hkl hea her6
        go_wp2
        rename_i K hK
        refine wp_held (fun w' : World => w'.cell? ⟨b, off + k * 2, none⟩ = some (.int .i64 px) ∧ w'.cell? ⟨b, off + k * 2 + 1, none⟩ = some (.slice ya yn yc)) K hmx ?_ (fun _ _ h => h)
        refine wpAnyH_take (i := 0) (v := .pointer (some ⟨D, 0, none⟩)) rfl (by kernel_rfl) (by kernel_rfl) (by kernel_rfl) (fun _ _ _ h => h) (Or.inl ⟨by rfl, ?_⟩) hSd ?_
        · rintro w6 ⟨k1, k2⟩
          go_simp
        simp only [Act.put, List.setIfInBounds_toArray, List.set_cons_zero, List.set_cons_succ, List.getElem_toArray, List.getElem_cons_zero]
        refine wpAnyH_take (i := 1) (v := .slice (some ⟨b, off, none⟩) n c) rfl (by kernel_rfl) (by kernel_rfl) (by kernel_rfl) (fun _ _ _ h => h) (Or.inl ⟨by rfl, ?_⟩) hSd ?_
        · rintro w6 ⟨k1, k2⟩
          go_simp
        simp only [Act.put, List.setIfInBounds_toArray, List.set_cons_zero, List.set_cons_succ, List.getElem_toArray, List.getElem_cons_zero, List.getElem_cons_succ]
        refine wpAnyH_take (i := 2) (v := .int .i64 (k : Int)) rfl (by kernel_rfl) (by kernel_rfl) (by kernel_rfl) (fun _ _ _ h => h) (Or.inl ⟨by rfl, ?_⟩) hSd ?_
        · rintro w6 ⟨k1, k2⟩
          go_simp
        simp only [Act.put, List.setIfInBounds_toArray, List.set_cons_zero, List.set_cons_succ, List.getElem_toArray, List.getElem_cons_zero, List.getElem_cons_succ]
        refine wpAnyH_take (i := 3) (v := .pointer (some ⟨b, off + k * 2, none⟩)) rfl (by kernel_rfl) (by kernel_rfl) (by kernel_rfl) (fun _ _ _ h => h) (Or.inl ⟨by rfl, ?_⟩) hSd ?_
        · rintro w6 ⟨k1, k2⟩
          go_simp
        simp only [Act.put, List.setIfInBounds_toArray, List.set_cons_zero, List.set_cons_succ, List.getElem_toArray, List.getElem_cons_zero, List.getElem_cons_succ]
        refine wpAnyH_take (i := 4) (v := .pointer (some ⟨b, off + k * 2, none⟩)) rfl (by kernel_rfl) (by kernel_rfl) (by kernel_rfl) (fun _ _ _ h => h) (Or.inl ⟨by rfl, ?_⟩) hSd ?_
        · rintro w6 ⟨k1, k2⟩
          go_simp
        simp only [Act.put, List.setIfInBounds_toArray, List.set_cons_zero, List.set_cons_succ, List.getElem_toArray, List.getElem_cons_zero, List.getElem_cons_succ]
        refine wpAnyH_take (i := 5) (v := .int .i64 px) rfl (by kernel_rfl) (by kernel_rfl) (by kernel_rfl) (fun _ _ _ h => h) (Or.inl ⟨by rfl, ?_⟩) hSd ?_
        · rintro w6 ⟨k1, k2⟩
          go_simp
        simp only [Act.put, List.setIfInBounds_toArray, List.set_cons_zero, List.set_cons_succ, List.getElem_toArray, List.getElem_cons_zero, List.getElem_cons_succ]
        refine wpAnyH_take (i := 6) (v := .slice (some ⟨b, off, none⟩) n c) rfl (by kernel_rfl) (by kernel_rfl) (by kernel_rfl) (fun _ _ _ h => h) (Or.inl ⟨by rfl, ?_⟩) hSd ?_
        · rintro w6 ⟨k1, k2⟩
          go_simp
        simp only [Act.put, List.setIfInBounds_toArray, List.set_cons_zero, List.set_cons_succ, List.getElem_toArray, List.getElem_cons_zero, List.getElem_cons_succ]
        refine wpAnyH_take (i := 7) (v := .int .i64 (k : Int)) rfl (by kernel_rfl) (by kernel_rfl) (by kernel_rfl) (fun _ _ _ h => h) (Or.inl ⟨by rfl, ?_⟩) hSd ?_
        · rintro w6 ⟨k1, k2⟩
          go_simp
        simp only [Act.put, List.setIfInBounds_toArray, List.set_cons_zero, List.set_cons_succ, List.getElem_toArray, List.getElem_cons_zero, List.getElem_cons_succ]
        refine wpAnyH_take (i := 8) (v := .pointer (some ⟨b, off + k * 2, none⟩)) rfl (by kernel_rfl) (by kernel_rfl) (by kernel_rfl) (fun _ _ _ h => h) (Or.inl ⟨by rfl, ?_⟩) hSd ?_
        · rintro w6 ⟨k1, k2⟩
          go_simp
        simp only [Act.put, List.setIfInBounds_toArray, List.set_cons_zero, List.set_cons_succ, List.getElem_toArray, List.getElem_cons_zero, List.getElem_cons_succ]
        refine wpAnyH_take (i := 9) (v := .pointer (some ⟨b, off + k * 2 + 1, none⟩)) rfl (by kernel_rfl) (by kernel_rfl) (by kernel_rfl) (fun _ _ _ h => h) (Or.inl ⟨by rfl, ?_⟩) hSd ?_
        · rintro w6 ⟨k1, k2⟩
          go_simp
        simp only [Act.put, List.setIfInBounds_toArray, List.set_cons_zero, List.set_cons_succ, List.getElem_toArray, List.getElem_cons_zero, List.getElem_cons_succ]
        refine wpAnyH_take (i := 10) (v := .slice ya yn yc) rfl (by kernel_rfl) (by kernel_rfl) (by kernel_rfl) (fun _ _ _ h => h) (Or.inl ⟨by rfl, ?_⟩) hSd ?_
        · rintro w6 ⟨k1, k2⟩
          go_simp
        simp only [Act.put, List.setIfInBounds_toArray, List.set_cons_zero, List.set_cons_succ, List.getElem_toArray, List.getElem_cons_zero, List.getElem_cons_succ]
        refine wpAnyH_ready (rs := [11]) (by kernel_rfl) (by simp) ?_
        refine AllReadyH.cons rfl (fun K5 hK5 => ?_) AllReadyH.nil
        go_simp
        go_at_call 18
        refine (HWR.out _ (Below.refl _ _).drew).mono ?_
        rintro e5 w5 ⟨rfl, T5, hd5, t5⟩
        have Z5 := Lib.hid (HZN.out w5 T5 hd5 t5)
        have G5 := Lib.hid (HGA.out w5 T5 t5)
        have hS5 : w5.cell? ⟨b, off + k * 2, none⟩ = some (.int .i64 px) ∧ w5.cell? ⟨b, off + k * 2 + 1, none⟩ = some (.slice ya yn yc) := HEL.out w5 Z5.out.bel
        clear hd5 t5
        refine hK5.out _ _ hS5 (fun _ => ?_)
        clear hK5 K5
        refine wpAnyH_done (by kernel_rfl) ?_ _
        refine hK _ _ ?_
        have hya5 := HYA.out.below Z5.out.bel
        have hgl : gs.length = 1 := G.out.len.symm
        have hrw := r6Write_any 0 px yl (G5.out.below (Below.refl _ w5).drew) (by omega) (fun r hr => by
          rw [RS.out] at hr
          have := Z.out.few r hr
          omega) (fun g hg => Z5.out.lo.un hg) (by have h1 := hya5.room; have h2 := hya5.most; have h3 := hya5.len; unfold maxLen at h2; omega)
        rw [RS.out] at hrw
        have hcv := run_string_of (P := Tryd.prog) w5.drew 32 9 5 Tryd.underlying32 Tryd.underlying5 Tryd.underlying9 (cap := yc) hya5.len hya5.reads
        unfold txtV GeEnd at hrw
        rw [HER.out] at hrw
        generalize (⟨yl.toArray⟩ : ByteArray) = yb at hcv hrw
        have HRW := Lib.hid hrw
        have hSd2 : (fun w' : World => w'.cell? ⟨b, off + k * 2, none⟩ = some (.int .i64 px) ∧ w'.cell? ⟨b, off + k * 2 + 1, none⟩ = some (.slice ya yn yc)) w5.drew := hS5
        clear hrw hya5 hgl
        go_wp2
        rename_i K2 hK2 hx2_
        refine wp_heldHQ (fun w' : World => w'.cell? ⟨b, off + k * 2, none⟩ = some (.int .i64 px) ∧ w'.cell? ⟨b, off + k * 2 + 1, none⟩ = some (.slice ya yn yc)) hmx ?_
        refine wpAnyH_take (i := 0) (v := .slice A1 1 c1) rfl (by kernel_rfl) (by kernel_rfl) (by kernel_rfl) (fun _ _ _ h => h) (Or.inl ⟨by rfl, ?_⟩) hSd2 ?_
        · rintro w6 ⟨k1, k2⟩
          go_simp
        simp only [Act.put, List.setIfInBounds_toArray, List.set_cons_zero, List.set_cons_succ, List.getElem_toArray, List.getElem_cons_zero]
        refine wpAnyH_take (i := 1) (v := .slice (some ⟨b, off, none⟩) n c) rfl (by kernel_rfl) (by kernel_rfl) (by kernel_rfl) (fun _ _ _ h => h) (Or.inl ⟨by rfl, ?_⟩) hSd2 ?_
        · rintro w6 ⟨k1, k2⟩
          go_simp
        simp only [Act.put, List.setIfInBounds_toArray, List.set_cons_zero, List.set_cons_succ, List.getElem_toArray, List.getElem_cons_zero, List.getElem_cons_succ]
        refine wpAnyH_take (i := 2) (v := .int .i64 (k : Int)) rfl (by kernel_rfl) (by kernel_rfl) (by kernel_rfl) (fun _ _ _ h => h) (Or.inl ⟨by rfl, ?_⟩) hSd2 ?_
        · rintro w6 ⟨k1, k2⟩
          go_simp
        simp only [Act.put, List.setIfInBounds_toArray, List.set_cons_zero, List.set_cons_succ, List.getElem_toArray, List.getElem_cons_zero, List.getElem_cons_succ]
        refine wpAnyH_take (i := 3) (v := .pointer (some ⟨b, off + k * 2, none⟩)) rfl (by kernel_rfl) (by kernel_rfl) (by kernel_rfl) (fun _ _ _ h => h) (Or.inl ⟨by rfl, ?_⟩) hSd2 ?_
        · rintro w6 ⟨k1, k2⟩
          go_simp
        simp only [Act.put, List.setIfInBounds_toArray, List.set_cons_zero, List.set_cons_succ, List.getElem_toArray, List.getElem_cons_zero, List.getElem_cons_succ]
        refine wpAnyH_take (i := 4) (v := .pointer (some ⟨b, off + k * 2, none⟩)) rfl (by kernel_rfl) (by kernel_rfl) (by kernel_rfl) (fun _ _ _ h => h) (Or.inl ⟨by rfl, ?_⟩) hSd2 ?_
        · rintro w6 ⟨k1, k2⟩
          go_simp
        simp only [Act.put, List.setIfInBounds_toArray, List.set_cons_zero, List.set_cons_succ, List.getElem_toArray, List.getElem_cons_zero, List.getElem_cons_succ]
        refine wpAnyH_take (i := 5) (v := .int .i64 px) rfl (by kernel_rfl) (by kernel_rfl) (by kernel_rfl) (fun _ _ _ h => h) (Or.inl ⟨by rfl, ?_⟩) hSd2 ?_
        · rintro w6 ⟨k1, k2⟩
          go_simp
        simp only [Act.put, List.setIfInBounds_toArray, List.set_cons_zero, List.set_cons_succ, List.getElem_toArray, List.getElem_cons_zero, List.getElem_cons_succ]
        refine wpAnyH_take (i := 6) (v := .slice (some ⟨b, off, none⟩) n c) rfl (by kernel_rfl) (by kernel_rfl) (by kernel_rfl) (fun _ _ _ h => h) (Or.inl ⟨by rfl, ?_⟩) hSd2 ?_
        · rintro w6 ⟨k1, k2⟩
          go_simp
        simp only [Act.put, List.setIfInBounds_toArray, List.set_cons_zero, List.set_cons_succ, List.getElem_toArray, List.getElem_cons_zero, List.getElem_cons_succ]
        refine wpAnyH_take (i := 7) (v := .int .i64 (k : Int)) rfl (by kernel_rfl) (by kernel_rfl) (by kernel_rfl) (fun _ _ _ h => h) (Or.inl ⟨by rfl, ?_⟩) hSd2 ?_
        · rintro w6 ⟨k1, k2⟩
          go_simp
        simp only [Act.put, List.setIfInBounds_toArray, List.set_cons_zero, List.set_cons_succ, List.getElem_toArray, List.getElem_cons_zero, List.getElem_cons_succ]
        refine wpAnyH_take (i := 8) (v := .pointer (some ⟨b, off + k * 2, none⟩)) rfl (by kernel_rfl) (by kernel_rfl) (by kernel_rfl) (fun _ _ _ h => h) (Or.inl ⟨by rfl, ?_⟩) hSd2 ?_
        · rintro w6 ⟨k1, k2⟩
          go_simp
        simp only [Act.put, List.setIfInBounds_toArray, List.set_cons_zero, List.set_cons_succ, List.getElem_toArray, List.getElem_cons_zero, List.getElem_cons_succ]
        refine wpAnyH_take (i := 9) (v := .pointer (some ⟨b, off + k * 2 + 1, none⟩)) rfl (by kernel_rfl) (by kernel_rfl) (by kernel_rfl) (fun _ _ _ h => h) (Or.inl ⟨by rfl, ?_⟩) hSd2 ?_
        · rintro w6 ⟨k1, k2⟩
          go_simp
        simp only [Act.put, List.setIfInBounds_toArray, List.set_cons_zero, List.set_cons_succ, List.getElem_toArray, List.getElem_cons_zero, List.getElem_cons_succ]
        refine wpAnyH_take (i := 10) (v := .slice ya yn yc) rfl (by kernel_rfl) (by kernel_rfl) (by kernel_rfl) (fun _ _ _ h => h) (Or.inl ⟨by rfl, ?_⟩) hSd2 ?_
        · rintro w6 ⟨k1, k2⟩
          go_simp
        simp only [Act.put, List.setIfInBounds_toArray, List.set_cons_zero, List.set_cons_succ, List.getElem_toArray, List.getElem_cons_zero, List.getElem_cons_succ]
        refine wpAnyH_ready (rs := [11]) (by kernel_rfl) (by simp) ?_
        refine AllReadyH.cons rfl (fun K5 hK5 => ?_) AllReadyH.nil
        go_simp
        (try rw [hcv])
        (try go_simp)
        refine hK5.out _ _ hSd2 (fun _ => ?_)
        clear hK5 K5
        refine wpAnyH_ready (rs := [12]) (by kernel_rfl) (by simp) ?_
        refine AllReadyH.cons rfl (fun K5 hK5 => ?_) AllReadyH.nil
        go_simp
        go_at_call 19
        refine HRW.out.mono ?_
        rintro e6 w6 ⟨A6, c6, gs6, rfl, g6, q6, b6⟩
        have G6 := Lib.hid g6
        have Q6 := Lib.hid q6
        have Z6 := Lib.hid (Z5.out.below ((Below.refl _ w5).drew.trans b6))
        have hS6 : w6.cell? ⟨b, off + k * 2, none⟩ = some (.int .i64 px) ∧ w6.cell? ⟨b, off + k * 2 + 1, none⟩ = some (.slice ya yn yc) := HEL.out w6 Z6.out.bel
        clear g6 q6 b6
        refine hK5.out _ _ hS6 (fun _ => ?_)
        clear hK5 K5
        refine wpAnyH_take (i := 13) (v := .tuple #[.slice A6 1 c6, .int .i64 er6]) rfl (by kernel_rfl) (by kernel_rfl) (by kernel_rfl) (fun _ _ _ h => h) (Or.inl ⟨by rfl, ?_⟩) hS6 ?_
        · rintro w6 ⟨k1, k2⟩
          go_simp
        simp only [Act.put, List.setIfInBounds_toArray, List.set_cons_zero, List.set_cons_succ, List.getElem_toArray, List.getElem_cons_zero, List.getElem_cons_succ]
        refine wpAnyH_take (i := 14) (v := .slice A6 1 c6) rfl (by kernel_rfl) (by kernel_rfl) (by kernel_rfl) (fun _ _ _ h => h) (Or.inl ⟨by rfl, ?_⟩) hS6 ?_
        · rintro w6 ⟨k1, k2⟩
          go_simp
        simp only [Act.put, List.setIfInBounds_toArray, List.set_cons_zero, List.set_cons_succ, List.getElem_toArray, List.getElem_cons_zero, List.getElem_cons_succ]
        refine wpAnyH_take (i := 15) (v := .int .i64 er6) rfl (by kernel_rfl) (by kernel_rfl) (by kernel_rfl) (fun _ _ _ h => h) (Or.inl ⟨by rfl, ?_⟩) hS6 ?_
        · rintro w6 ⟨k1, k2⟩
          go_simp
        simp only [Act.put, List.setIfInBounds_toArray, List.set_cons_zero, List.set_cons_succ, List.getElem_toArray, List.getElem_cons_zero, List.getElem_cons_succ]
        refine wpAnyH_take (i := 16) (v := .slice A6 1 c6) rfl (by kernel_rfl) (by kernel_rfl) (by kernel_rfl) (fun _ _ _ h => h) (Or.inl ⟨by rfl, ?_⟩) hS6 ?_
        · rintro w6 ⟨k1, k2⟩
          go_simp
        simp only [Act.put, List.setIfInBounds_toArray, List.set_cons_zero, List.set_cons_succ, List.getElem_toArray, List.getElem_cons_zero, List.getElem_cons_succ]
        refine wpAnyH_done (by kernel_rfl) ?_ _
        refine hK2 _ _ ?_
        go_wp2
        go_roundw
        case rel => exact ⟨k + 1, T5, _, A6, c6, gs6, by omega, by go_num, rfl, Z6.out, G6.out, Q6.out, wrA_size SZ.out 0 px yl⟩
        case measure => simp [intOf]; omega
      · obtain rfl : k = n := by omega
        obtain ⟨R0, hR0⟩ : ∃ R0, getL (fun p => (rdL rs 0 p, rdE rs 0 p)) first = R0 := ⟨_, rfl⟩
        obtain ⟨R1, hR1⟩ : ∃ R1, getL (fun p => (rdL rs 1 p, rdE rs 1 p)) first = R1 := ⟨_, rfl⟩
        have hm0 : R0.1.length ≤ 60000 := by rw [← hR0]; exact (getL_few _ _).1
        have hm1 : R0.2.1.length ≤ 60000 := by rw [← hR0]; exact (getL_few _ _).2
        have hfew : ∀ r ∈ rgs gs, r.loose.length ≤ 1000 := fun r hr => by
          rw [RS.out] at hr
          have := Z.out.few r hr
          omega
        have hsz2 : ∀ r ∈ rgs gs, r.size ≤ 1000 := fun r hr => by
          rw [RS.out] at hr
          exact SZ.out r hr
        have HG0 : Hid (∀ w5, Below wr.heap.size wr w5 → Calls Tryd.prog 20 #[.pointer (some ⟨D, 0, none⟩), .int .i64 0, .int .i64 first] w5 (GetEndL R0 w5)) := Lib.hid (fun w5 b5 => by rw [← hR0]; exact HGC.out w5 T' D AD _ rs (Z.out.below b5) SZ.out 0)
        have HG1 : Hid (∀ w5, Below wr.heap.size wr w5 → Calls Tryd.prog 20 #[.pointer (some ⟨D, 0, none⟩), .int .i64 1, .int .i64 first] w5 (GetEndL R1 w5)) := Lib.hid (fun w5 b5 => by rw [← hR1]; exact HGC.out w5 T' D AD _ rs (Z.out.below b5) SZ.out 1)
        have HN0 : Hid (∀ w5, Below wr.heap.size wr w5 → Calls Tryd.prog 21 #[.slice A1 1 c1, .int .i64 0, .int .i64 first] w5 (GetEndL R0 w5)) := Lib.hid (fun w5 b5 => by rw [← hR0, ← RS.out]; exact r11Get_any 0 first (G.out.below b5) hfew (rdE_in hsz2))
        have HN1 : Hid (∀ w5, Below wr.heap.size wr w5 → Calls Tryd.prog 21 #[.slice A1 1 c1, .int .i64 1, .int .i64 first] w5 (GetEndL R1 w5)) := Lib.hid (fun w5 b5 => by rw [← hR1, ← RS.out]; exact r11Get_any 1 first (G.out.below b5) hfew (rdE_in hsz2))
        obtain ⟨s0, l0, e0⟩ := R0
        obtain ⟨s1, l1, e1⟩ := R1
        unfold GetEndL at HG0 HG1 HN0 HN1
        simp only at HG0 HG1 HN0 HN1 hm0 hm1
        have HM0 := Lib.hid hm0
        have HM1 := Lib.hid hm1
        obtain ⟨wx, hwx⟩ : ∃ wx : World, wx = wr := ⟨_, rfl⟩
        subst hwx
        have HBX := Lib.hid Z.out.bel
        clear hR0 hR1 hm0 hm1 hfew hsz2
        go_wp2_with (first
          | (go_at_call 20; (with_reducible refine (HG0.out _ (Below.refl _ _)).mono ?_); rintro e w5 ⟨A5, n5, c5, B5, m5, d5, rfl, hi5, hk5, b5⟩; have hn5 := hi5.len; subst hn5; have hm5 := hk5.len; subst hm5; have I5 := Lib.hid hi5; have K5 := Lib.hid hk5; have B5 := Lib.hid b5; clear hi5 hk5 b5)
          | (go_at_call 21; (with_reducible refine (HN0.out _ B5.out).mono ?_); rintro e w6 ⟨A6, n6, c6, B6, m6, d6, rfl, hi6, hk6, b6⟩; have hn6 := hi6.len; subst hn6; have hm6 := hk6.len; subst hm6; have I6 := Lib.hid hi6; have K6 := Lib.hid hk6; have I5b := Lib.hid (I5.out.below9 b6); have K5b := Lib.hid (K5.out.below9 b6); have B6 := Lib.hid (below_step B5.out b6); clear hi6 hk6 b6)
          | (go_at_call 20; (with_reducible refine (HG1.out _ B6.out).mono ?_); rintro e w7 ⟨A7, n7, c7, B7, m7, d7, rfl, _, _, b7⟩; have I6b := Lib.hid (I6.out.below9 b7); have I5c := Lib.hid (I5b.out.below9 b7); have K6b := Lib.hid (K6.out.below9 b7); have K5c := Lib.hid (K5b.out.below9 b7); have B7 := Lib.hid (below_step B6.out b7); clear b7)
          | (go_at_call 21; (with_reducible refine (HN1.out _ B7.out).mono ?_); rintro e w8 ⟨A8, n8, c8, B8, m8, d8, rfl, _, _, b8⟩; have I6c := Lib.hid (I6b.out.below9 b8); have I5d := Lib.hid (I5c.out.below9 b8); have K6c := Lib.hid (K6b.out.below9 b8); have K5d := Lib.hid (K5c.out.below9 b8); have B8 := Lib.hid (below_step HBX.out (below_step B7.out b8)); clear b8)
          | (go_at_call 22; (with_reducible refine (HR3.out _ _ _ _ _ _ _ I5d.out I6c.out HM0.out).mono ?_); rintro e w9 ⟨rfl, b9⟩; have B9 := Lib.hid (below_step B8.out b9); have K6d := Lib.hid (K6c.out.below9 b9); have K5e := Lib.hid (K5d.out.below9 b9); clear b9)
          | (go_at_call 22; (with_reducible refine (HR3.out _ _ _ _ _ _ _ K5e.out K6d.out HM1.out).mono ?_); rintro e w10 ⟨rfl, b10⟩; have B10 := Lib.hid (below_step B9.out b10); clear b10))
        go_ret
        exact ⟨retb (by simp), B10.out⟩

end Go.Proofs.YthcjledpjlpfaaaDoor
