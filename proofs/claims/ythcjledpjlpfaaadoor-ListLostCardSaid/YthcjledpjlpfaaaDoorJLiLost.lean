import Derived.Test.YthcjledpjlpfaaaDoorJ18
import Derived.Test.YthcjledpjlpfaaaDoorJ11
/- Of a claim's texts, joined: LiLost. No statement but in the last. -/
namespace Go.Proofs.YthcjledpjlpfaaaDoor
open Go.RowKit
set_option linter.unusedVariables false

set_option maxRecDepth 100000 in
set_option maxHeartbeats 8000000 in
theorem walkLiLost (A : Option Addr) (n c : Nat) (l : List Int) (B : Option Addr) (m d : Nat) (a : List Int) (u : Nat) (W : World) (ht : Tab W) (h : Ints6 W A n l) (hc : n ≤ c) (hcm : c ≤ maxLen) (hB : Ints6 W B m a) (hd : m ≤ d) (hdm : d ≤ maxLen) (hu : u ≤ 255) :
    Calls Tryd.prog 7 #[.slice A n c, .slice B m d, .int .u8 (u : Int)] W fun e W' => e = .returned (.bool true) ∧ Below W.heap.size W W' := by
  have hmx : Tryd.prog.follows .mixedOrders = true := by kernel_rfl
  have hcI : (n : Int) ≤ 9223372036854775807 := by unfold maxLen at hcm; omega
  have hdI : (m : Int) ≤ 9223372036854775807 := by unfold maxLen at hdm; omega
  have HAW := Lib.hid (awake11_any W ht)
  by_cases hs : 400 < n
  · have hsI : (400 : Int) < (n : Int) := by omega
    clear hc hcm h hd hdm hB
    go_enter Tryd.func7, Tryd.ntmps7
    go_wp2_with (go_at_call 8; (with_reducible refine HAW.out.mono ?_); rintro e w1 ⟨rfl, b1⟩; have B1 := Lib.hid b1; clear b1)
    go_ret
    exact ⟨rfl, B1.out⟩
  · by_cases hn : 20 < m
    · have hsI : ¬ (400 : Int) < (n : Int) := by omega
      have hnI : (20 : Int) < (m : Int) := by omega
      clear hc hcm h hd hdm hB
      go_enter Tryd.func7, Tryd.ntmps7
      go_wp2_with (go_at_call 8; (with_reducible refine HAW.out.mono ?_); rintro e w1 ⟨rfl, b1⟩; have B1 := Lib.hid b1; clear b1)
      go_ret
      exact ⟨rfl, B1.out⟩
    · have hsI : ¬ (400 : Int) < (n : Int) := by omega
      have hnI : ¬ (20 : Int) < (m : Int) := by omega
      have hn4 : n ≤ 400 := by omega
      have hm2 : m ≤ 20 := by omega
      have HPU : Hid (∀ w1, Below W.heap.size W w1 → Calls Tryd.prog 9 #[.slice A n c, .slice B m d] w1 (PutEndL l a w1)) := Lib.hid (fun w1 b1 => fPut_any l a A n c B m d w1 (ht.below b1) (h.below9 b1) (hB.below9 b1) (by omega) (by omega) hc hcm)
      unfold PutEndL at HPU
      by_cases hg : goodL l a
      · have hp : putL l a = (pgsL l a, 0) := by unfold putL; rw [if_pos hg]
        rw [hp] at HPU
        have HG := Lib.hid hg
        have HLN := Lib.hid hB.len
        have HLL := Lib.hid h.len
        by_cases hm0 : m = 0
        · subst hm0
          clear hg hp h hB ht hs hn
          go_enter Tryd.func7, Tryd.ntmps7
          go_wp2_with (first
            | (go_at_call 8; (with_reducible refine HAW.out.mono ?_); rintro e w1 ⟨rfl, b1⟩; have B1 := Lib.hid b1; clear b1)
            | (go_at_call 9; go_loud ((with_reducible refine (HPU.out _ B1.out).mono ?_); rintro e w2 ⟨A2, n2, c2, q, rfl, hC, hq, hR, b2, hRw⟩; have hn2 : n2 = 0 := (hC.len.trans ((lq_pgsL hq).1.trans HLN.out.symm)); subst hn2; have B2 := Lib.hid (below_step B1.out b2); clear hC hq hR b2 hRw)))
          go_ret
          exact ⟨rfl, B2.out⟩
        · have hgc := fun w1 T D AD N ws (hz : Dz W w1 T 0 D AD N [lz 1000 ws]) p => fGet_any 0 p (ht.below hz.bel) hz.dk (rdE_in (x := 0) (by intro r hr; obtain rfl := List.mem_singleton.1 hr; show 1000 ≤ 1000; decide))
          have HGC := Lib.hid hgc
          obtain ⟨ga, oa, rfl⟩ : ∃ ga oa, B = some ⟨ga, oa, none⟩ := by
            obtain ⟨g, off, e, _⟩ := hB.reads (by rw [List.length_map, ← hB.len]; omega)
            exact ⟨g, off, e⟩
          have HPX : Hid (∀ k, k < m → 2 ≤ a.getD k 0 ∧ a.getD k 0 ≤ 999 ∧ (∀ w1, Below W.heap.size W w1 → w1.cell? ⟨ga, oa + k, none⟩ = some (.int .i64 (a.getD k 0)))) := Lib.hid (fun k hk => by
            have h1 := getD_some (l := a) (j := k) (by rw [← HLN.out]; exact hk)
            have h2 := okA_pg HG.out.2.2 h1
            exact ⟨h2.1, h2.2, fun w1 b => cell_below (hB.cell6 h1) b⟩)
          have HNW : Hid (∀ w2, Below W.heap.size W w2 → ∀ X2, w2.alloc (.cells #[.int .i64 1000] 3) = X2 → Calls Tryd.prog 16 #[.slice (some ⟨w2.heap.size, 0, none⟩) 1 1] X2 fun e w' => ∃ D A T', e = .returned (.tuple #[.pointer (some ⟨D, 0, none⟩), .int .i64 0]) ∧ Dz W w' T' 0 D A 0 [lz 1000 []] ∧ Tn noT 0 X2 T' w' ∧ Below X2.heap.size X2 w') := Lib.hid (fun w2 b X2 e => by
            subst e
            exact New_z (w0 := W) (c := 1) 0 (ints_lit w2 [1000] _ rfl) (lo_none _ _) (b.alloc b.size _) (by decide))
          have HR1 := Lib.hid (fun A4 c4 w1 (h4 : Ints6 w1 A4 n l) (b1 : Below W.heap.size W w1) => r3Ints_z l A4 A n c4 c w1 h.len h4.reads (h.below9 b1).reads (by omega))
          have hkk : u % m < m := Nat.mod_lt _ (by omega)
          have hrem : ((u : Int)).tmod (m : Int) = ((u % m : Nat) : Int) := by rw [Int.tmod_eq_emod_of_nonneg (by omega)]; exact (Int.natCast_emod _ _).symm
          have hrem2 : (u : Int) % (m : Int) = ((u % m : Nat) : Int) := (Int.natCast_emod _ _).symm
          generalize u % m = kk at hkk hrem hrem2
          have hnz : ((m : Int) == 0) = false := by simp; omega
          have hnz2 : ¬ (m : Int) = 0 := by omega
          clear hg hp h hB hgc ht hs hn hm0
          go_enter Tryd.func7, Tryd.ntmps7
          go_wp2_with (first
            | (go_at_call 8; (with_reducible refine HAW.out.mono ?_); rintro e w1 ⟨rfl, b1⟩; have B1 := Lib.hid b1; clear b1)
            | (go_at_call 9; go_loud ((with_reducible refine (HPU.out _ B1.out).mono ?_); rintro e w2 ⟨A2, n2, c2, q, rfl, hC, hq, hR, b2, hRw⟩; have hn2 : n2 = m := (hC.len.trans ((lq_pgsL hq).1.trans HLN.out.symm)); subst hn2; have P2 := Lib.hid (PgT.of_putL (T := noT) (l := l) (a := a) hC (by have := HG.out; unfold putL; rw [if_pos this]; exact hq) hR hRw (fun _ _ => rfl)); have HQ := Lib.hid hq; have B2 := Lib.hid (below_step B1.out b2); obtain ⟨X2, hX2⟩ : ∃ X2, w2.alloc (.cells #[.int .i64 1000] 3) = X2 := ⟨_, rfl⟩; have BX := Lib.hid (show Below w2.heap.size w2 X2 from hX2 ▸ (Below.refl _ w2).alloc (Nat.le_refl _) _); have HX2 := Lib.hid hX2; clear hC hq hR b2 hRw hX2))
            | (go_at_call 16; go_loud ((try rw [HX2.out]); (with_reducible refine (HNW.out _ B2.out _ HX2.out).mono ?_); rintro e w3 ⟨D, AD, T3, rfl, hz3, ht3, _⟩; have Z3 := Lib.hid hz3; have P3 := Lib.hid ((P2.out.below BX.out).tn ht3); clear hz3 ht3)))
          have hql : q.length = n2 := (lq_pgsL HQ.out).1.trans HLN.out.symm
          have HQL := Lib.hid hql
          obtain ⟨gA, oA, rfl⟩ : ∃ gA oA, A2 = some ⟨gA, oA, none⟩ := by
            obtain ⟨g, off, e, _⟩ := P3.out.at (k := 0) (by omega)
            exact ⟨g, off, e⟩
          clear hql
          go_loopw [12] (fun i wr => ∃ (k : Nat) (T' : Tg) (vs : List Wr), k ≤ n2 ∧ i = .int .i64 (k : Int) ∧ (∀ j, j < k → j ≠ kk → pgW vs (a.getD j 0) = pageL l a j) ∧ pgW vs (a.getD kk 0) = zeros ∧ Dz W wr T' 0 D AD k [lz 1000 vs] ∧ PgT wr T' (some ⟨gA, oA, none⟩) n2 c2 q) (fun i _ => n2 - (intOf i).toNat)
          case atStart => exact ⟨0, T3, [], Nat.zero_le _, rfl, (fun j hj => absurd hj (by omega)), rfl, Z3.out, P3.out⟩
          case round =>
            obtain ⟨k, T', vs, hk, rfl, hv1, hv2, hz, hp⟩ := hrel
            have Z := Lib.hid hz
            have P := Lib.hid hp
            have HV1 := Lib.hid hv1
            have HV2 := Lib.hid hv2
            clear hz hp hv1 hv2
            by_cases hlt : k < n2
            · have hkI : (k : Int) < (n2 : Int) := by omega
              by_cases hkq : k = kk
              · have hkqI : ((k : Int) != (kk : Int)) = false := by simp; omega
                have HVN := Lib.hid (show ∀ j, j < k + 1 → j ≠ kk → pgW vs (a.getD j 0) = pageL l a j from fun j hj hne => HV1.out j (by omega) hne)
                clear hkq
                go_wp2
                go_roundw
                case rel => exact ⟨k + 1, T', vs, by omega, by go_num, HVN.out, HV2.out, Z.out.more (by omega), P.out⟩
                case measure => simp [intOf]; omega
              · have hkqI : ((k : Int) != (kk : Int)) = true := by simp; omega
                have hqk : k < q.length := by rw [HQL.out]; exact hlt
                have HCK : Hid (∀ w5 T5, PgT w5 T5 (some ⟨gA, oA, none⟩) n2 c2 q → w5.cell? ⟨gA, oA + k, none⟩ = some (.slice (q[k]).a 128 (q[k]).c)) := Lib.hid (fun w5 T5 h => by
                  obtain ⟨g', o', e, hc⟩ := h.at hqk
                  injection e with e
                  injection e with e1 e2 _
                  subst e1 e2
                  rw [(h.each _ (List.getElem_mem hqk)).2.1] at hc
                  exact hc)
                obtain ⟨hp1, hp2, hp3⟩ := HPX.out k hlt
                have HCA := Lib.hid hp3
                have hkl : k < a.length := by rw [← HLN.out]; exact hlt
                have HWR : Hid (∀ w5, Below wr.heap.size wr w5 → Calls Tryd.prog 18 #[.pointer (some ⟨D, 0, none⟩), .int .i64 0, .int .i64 (a.getD k 0), .slice (q[k]).a 128 (q[k]).c] w5 (DzEnd (.int .i64 0) W w5 T' 0 D AD (k + 1) [lz 1000 (vs ++ [(a.getD k 0, pageL l a k)])])) := Lib.hid (fun w5 b5 => by
                  obtain ⟨hkq, hw⟩ := step_writeL (r := 0) (m := 1000) (rs := [lz 1000 vs]) (Z.out.below b5) (by omega) rfl (P.out.below b5) HQ.out HG.out.2.2 hkl (by omega)
                  exact hw)
                have hvn : ∀ j, j < k + 1 → j ≠ kk → pgW (vs ++ [(a.getD k 0, pageL l a k)]) (a.getD j 0) = pageL l a j := fun j hj hne => by
                  rw [pgW_snoc]
                  by_cases e : j = k
                  · subst e
                    rw [if_pos rfl]
                  · rw [if_neg (okA_ne' HG.out.2.2 (by omega) hkl e)]
                    exact HV1.out j (by omega) hne
                have hvz : pgW (vs ++ [(a.getD k 0, pageL l a k)]) (a.getD kk 0) = zeros := by
                  rw [pgW_snoc, if_neg (okA_ne' HG.out.2.2 (by rw [← HLN.out]; exact hkk) hkl (fun e => hkq e.symm))]
                  exact HV2.out
                obtain ⟨vs2, hvs2⟩ : ∃ vs2, vs ++ [(a.getD k 0, pageL l a k)] = vs2 := ⟨_, rfl⟩
                rw [hvs2] at hvn hvz HWR
                have HVN := Lib.hid hvn
                have HVZ := Lib.hid hvz
                generalize hpx : a.getD k 0 = px at HCA HWR hp1 hp2
                generalize q[k] = y at HCK HWR
                have hSd : (fun w' : World => w'.cell? ⟨gA, oA + k, none⟩ = some (.slice y.a 128 y.c) ∧ w'.cell? ⟨ga, oa + k, none⟩ = some (.int .i64 px)) wr.drew := ⟨HCK.out wr T' P.out, HCA.out wr Z.out.bel⟩
                have hk0 : (0 : Int) ≤ (k : Int) := by omega
                clear hpx hp3 hqk hkl hvn hvz hvs2
                go_wp2
                rename_i K hK
                refine wp_heldHQ (fun w' : World => w'.cell? ⟨gA, oA + k, none⟩ = some (.slice y.a 128 y.c) ∧ w'.cell? ⟨ga, oa + k, none⟩ = some (.int .i64 px)) hmx ?_
                refine wpAnyH_take (i := 0) (v := .pointer (some ⟨D, 0, none⟩)) (lit rfl) (by kernel_rfl) (by kernel_rfl) (by kernel_rfl) (fun _ _ _ h => h) (Or.inl ⟨by rfl, ?_⟩) hSd ?_
                · rintro w6 ⟨k1, k2⟩
                  go_simp
                simp only [Act.put, List.setIfInBounds_toArray, List.set_cons_zero, List.set_cons_succ]
                refine wpAnyH_take (i := 1) (v := .slice (some ⟨ga, oa, none⟩) n2 d) (lit rfl) (by kernel_rfl) (by kernel_rfl) (by kernel_rfl) (fun _ _ _ h => h) (Or.inl ⟨by rfl, ?_⟩) hSd ?_
                · rintro w6 ⟨k1, k2⟩
                  go_simp
                simp only [Act.put, List.setIfInBounds_toArray, List.set_cons_zero, List.set_cons_succ]
                refine wpAnyH_take (i := 2) (v := .int .i64 (k : Int)) (lit rfl) (by kernel_rfl) (by kernel_rfl) (by kernel_rfl) (fun _ _ _ h => h) (Or.inl ⟨by rfl, ?_⟩) hSd ?_
                · rintro w6 ⟨k1, k2⟩
                  go_simp
                simp only [Act.put, List.setIfInBounds_toArray, List.set_cons_zero, List.set_cons_succ]
                refine wpAnyH_take (i := 3) (v := .pointer (some ⟨ga, oa + k, none⟩)) (lit rfl) (by kernel_rfl) (by kernel_rfl) (by kernel_rfl) (fun _ _ _ h => h) (Or.inl ⟨by rfl, ?_⟩) hSd ?_
                · rintro w6 ⟨k1, k2⟩
                  go_simp
                simp only [Act.put, List.setIfInBounds_toArray, List.set_cons_zero, List.set_cons_succ]
                refine wpAnyH_take (i := 4) (v := .int .i64 px) (lit rfl) (by kernel_rfl) (by kernel_rfl) (by kernel_rfl) (fun _ _ _ h => h) (Or.inl ⟨by rfl, ?_⟩) hSd ?_
                · rintro w6 ⟨k1, k2⟩
                  go_simp
                simp only [Act.put, List.setIfInBounds_toArray, List.set_cons_zero, List.set_cons_succ]
                refine wpAnyH_take (i := 5) (v := .slice (some ⟨gA, oA, none⟩) n2 c2) (lit rfl) (by kernel_rfl) (by kernel_rfl) (by kernel_rfl) (fun _ _ _ h => h) (Or.inl ⟨by rfl, ?_⟩) hSd ?_
                · rintro w6 ⟨k1, k2⟩
                  go_simp
                simp only [Act.put, List.setIfInBounds_toArray, List.set_cons_zero, List.set_cons_succ]
                refine wpAnyH_take (i := 6) (v := .int .i64 (k : Int)) (lit rfl) (by kernel_rfl) (by kernel_rfl) (by kernel_rfl) (fun _ _ _ h => h) (Or.inl ⟨by rfl, ?_⟩) hSd ?_
                · rintro w6 ⟨k1, k2⟩
                  go_simp
                simp only [Act.put, List.setIfInBounds_toArray, List.set_cons_zero, List.set_cons_succ]
                refine wpAnyH_take (i := 7) (v := .pointer (some ⟨gA, oA + k, none⟩)) (lit rfl) (by kernel_rfl) (by kernel_rfl) (by kernel_rfl) (fun _ _ _ h => h) (Or.inl ⟨by rfl, ?_⟩) hSd ?_
                · rintro w6 ⟨k1, k2⟩
                  go_simp
                simp only [Act.put, List.setIfInBounds_toArray, List.set_cons_zero, List.set_cons_succ]
                refine wpAnyH_take (i := 8) (v := .slice y.a 128 y.c) (lit rfl) (by kernel_rfl) (by kernel_rfl) (by kernel_rfl) (fun _ _ _ h => h) (Or.inl ⟨by rfl, ?_⟩) hSd ?_
                · rintro w6 ⟨k1, k2⟩
                  go_simp
                simp only [Act.put, List.setIfInBounds_toArray, List.set_cons_zero, List.set_cons_succ]
                refine wpAnyH_ready (rs := [9]) (by kernel_rfl) (by simp) ?_
                refine AllReadyH.cons (lit rfl) (fun K5 hK5 => ?_) AllReadyH.nil
                refine step_open rfl ?_
                go_simp
                go_at_call 18
                refine (HWR.out _ (Below.refl _ _).drew).mono ?_
                rintro e5 w5 ⟨rfl, T5, z5, t5⟩
                have Z5 := Lib.hid z5
                have P5 := Lib.hid (P.out.drew9.tn t5)
                have hS5 : w5.cell? ⟨gA, oA + k, none⟩ = some (.slice y.a 128 y.c) ∧ w5.cell? ⟨ga, oa + k, none⟩ = some (.int .i64 px) := ⟨HCK.out w5 T5 P5.out, HCA.out w5 Z5.out.bel⟩
                clear z5 t5
                refine hK5.out _ _ hS5 (fun _ => ?_)
                clear hK5 K5
                refine wpAnyH_done (by kernel_rfl) ?_ _
                refine hK _ _ ?_
                go_wp2
                go_roundw
                case rel => exact ⟨k + 1, T5, vs2, by omega, by go_num, HVN.out, HVZ.out, Z5.out, P5.out⟩
                case measure => simp [intOf]; omega
            · obtain rfl : k = n2 := by omega
              have hl : (getL (fun p => (rdL [lz 1000 vs] 0 p, rdE [lz 1000 vs] 0 p)) (a.getD 0 0)).2.2 = 12 := by
                have hkl : kk < a.length := by rw [← HLN.out]; exact hkk
                exact getL_lost (rd := fun p => (rdL [lz 1000 vs] 0 p, rdE [lz 1000 vs] 0 p)) HG.out (by rw [← HLN.out]; omega) kk hkl (fun j x hj hx => by
                  have hjl := (List.getElem?_eq_some_iff.1 hx).1
                  have e : a.getD j 0 = x := by rw [List.getD_eq_getElem?_getD, hx]; rfl
                  have hp := okA_pg HG.out.2.2 hx
                  have h3 := rdL_at (rs := [lz 1000 vs]) (k := 0) rfl (p := x) (by omega) (by omega)
                  have h4 := rdE_at (rs := [lz 1000 vs]) (k := 0) rfl (p := x) (by omega) (by omega)
                  rw [← e, HV1.out j (by omega) (by omega), e] at h3
                  exact Prod.ext h3 h4) zeros (by
                  have hp := okA_pg HG.out.2.2 (getD_some hkl)
                  have h3 := rdL_at (rs := [lz 1000 vs]) (k := 0) rfl (p := a.getD kk 0) (by omega) (by omega)
                  have h4 := rdE_at (rs := [lz 1000 vs]) (k := 0) rfl (p := a.getD kk 0) (by omega) (by omega)
                  rw [HV2.out] at h3
                  exact Prod.ext h3 h4) (unp_bad (by decide) zeros_bad)
              have hg9 := HGC.out wr T' D AD _ _ Z.out (a.getD 0 0)
              obtain ⟨⟨s9, l9, e9⟩, hr9⟩ : ∃ r, getL (fun p => (rdL [lz 1000 vs] 0 p, rdE [lz 1000 vs] 0 p)) (a.getD 0 0) = r := ⟨_, rfl⟩
              rw [hr9] at hl hg9
              simp only at hl
              subst hl
              unfold GetEndL at hg9
              have HG9 := Lib.hid hg9
              -- behind the last write
              have hkl : kk < a.length := by rw [← HLN.out]; exact hkk
              have hrd := rd_lzL (rs := [lz 1000 (vs ++ [(a.getD kk 0, pageL l a kk)])]) (k := 0) rfl HG.out.2.2 (fun x hx => by have := okA_mem HG.out.2.2 hx; omega) (fun j hj => by
                rw [pgW_snoc]
                by_cases e : j = kk
                · subst e
                  rw [if_pos rfl]
                · rw [if_neg (okA_ne' HG.out.2.2 hj hkl e)]
                  exact HV1.out j (by rw [HLN.out]; exact hj) e)
              have hgr := getL_put HG.out (by rw [← HLN.out]; omega) hrd
              have hgr2 : getL (fun p => (rdL [lz 1000 (vs ++ [(a.getD kk 0, pageL l a kk)])] 0 p, rdE [lz 1000 (vs ++ [(a.getD kk 0, pageL l a kk)])] 0 p)) (a.getD 0 0) = (l, a, 0) := hgr
              obtain ⟨p01, p02, p03⟩ := HPX.out 0 (by omega)
              simp only [Nat.add_zero] at p03
              have HP0 := Lib.hid p03
              have hc0 := p03 wr Z.out.bel
              have hlast := fun w5 T5 (hz : Dz W w5 T5 0 D AD (k + 1) [lz 1000 (vs ++ [(a.getD kk 0, pageL l a kk)])]) => (by
                have := HGC.out w5 T5 D AD _ _ hz (a.getD 0 0)
                rw [hgr2] at this
                exact this : Calls Tryd.prog 20 #[.pointer (some ⟨D, 0, none⟩), .int .i64 0, .int .i64 (a.getD 0 0)] w5 (GetEndL (l, a, 0) w5))
              unfold GetEndL at hlast
              have HLAST := Lib.hid hlast
              have HNZ := Lib.hid hkk
              obtain ⟨wo, hwo⟩ : ∃ wo : World, wo = wr := ⟨_, rfl⟩
              subst hwo
              generalize hp0 : a.getD 0 0 = p0 at hc0 HP0 HG9 HLAST
              have h0I : (0 : Int) < (k : Int) := by omega
              clear hr9 hg9 hrd hgr hgr2 p01 p02 p03 hlast hp0
              go_wp2_with (go_at_call 20; go_loud ((with_reducible refine HG9.out.mono ?_); rintro e w4 ⟨A4, n4, c4, B4, m4, d4, rfl, _, _, b4⟩; have Z4 := Lib.hid (Z.out.below b4); have P4 := Lib.hid (P.out.below b4); have hc04 := HP0.out w4 Z4.out.bel; clear b4))
              have hz4 := Z4.out
              have hp4 := P4.out
              clear Z P
              have Z := Lib.hid hz4
              have P := Lib.hid hp4
              clear hz4 hp4 Z4 P4
              have hqk : kk < q.length := by rw [HQL.out]; exact hkk
              have HCK : Hid (∀ w5 T5, PgT w5 T5 (some ⟨gA, oA, none⟩) k c2 q → w5.cell? ⟨gA, oA + kk, none⟩ = some (.slice (q[kk]).a 128 (q[kk]).c)) := Lib.hid (fun w5 T5 h => by
                obtain ⟨g', o', e, hc⟩ := h.at hqk
                injection e with e
                injection e with e1 e2 _
                subst e1 e2
                rw [(h.each _ (List.getElem_mem hqk)).2.1] at hc
                exact hc)
              obtain ⟨hp1, hp2, hp3⟩ := HPX.out kk hkk
              have HCA := Lib.hid hp3
              have hkl : kk < a.length := by rw [← HLN.out]; exact hkk
              have HWR : Hid (∀ w5, Below w4.heap.size w4 w5 → Calls Tryd.prog 18 #[.pointer (some ⟨D, 0, none⟩), .int .i64 0, .int .i64 (a.getD kk 0), .slice (q[kk]).a 128 (q[kk]).c] w5 (DzEnd (.int .i64 0) W w5 T' 0 D AD (k + 1) [lz 1000 (vs ++ [(a.getD kk 0, pageL l a kk)])])) := Lib.hid (fun w5 b5 => by
                obtain ⟨hkq, hw⟩ := step_writeL (r := 0) (m := 1000) (rs := [lz 1000 vs]) (Z.out.below b5) (by omega) rfl (P.out.below b5) HQ.out HG.out.2.2 hkl (by omega)
                exact hw)
              generalize hpx : a.getD kk 0 = px at HCA HWR HLAST hp1 hp2
              generalize q[kk] = y at HCK HWR
              have hSd : (fun w' : World => w'.cell? ⟨gA, oA + kk, none⟩ = some (.slice y.a 128 y.c) ∧ w'.cell? ⟨ga, oa + kk, none⟩ = some (.int .i64 px)) w4.drew := ⟨HCK.out w4 T' P.out, HCA.out w4 Z.out.bel⟩
              have hk0 : (0 : Int) ≤ (kk : Int) := by omega
              have hkkI : (kk : Int) < (k : Int) := by omega
              have hkz : ¬ k = 0 := by omega
              have hwu : IntKind.i64.wrap (u : Int) = (u : Int) := by rw [IntKind.wrap_i64]; omega
              clear hpx hp3 hqk hkl
              go_wp2
              rename_i K hK
              refine wp_held (fun w' : World => w'.cell? ⟨gA, oA + kk, none⟩ = some (.slice y.a 128 y.c) ∧ w'.cell? ⟨ga, oa + kk, none⟩ = some (.int .i64 px)) K hmx ?_ (fun _ _ h => h)
              refine wpAnyH_take (i := 0) (v := .pointer (some ⟨D, 0, none⟩)) (lit rfl) (by kernel_rfl) (by kernel_rfl) (by kernel_rfl) (fun _ _ _ h => h) (Or.inl ⟨by rfl, ?_⟩) hSd ?_
              · rintro w6 ⟨k1, k2⟩
                go_simp
              simp only [Act.put, List.setIfInBounds_toArray, List.set_cons_zero, List.set_cons_succ]
              refine wpAnyH_take (i := 1) (v := .slice (some ⟨ga, oa, none⟩) k d) (lit rfl) (by kernel_rfl) (by kernel_rfl) (by kernel_rfl) (fun _ _ _ h => h) (Or.inl ⟨by rfl, ?_⟩) hSd ?_
              · rintro w6 ⟨k1, k2⟩
                go_simp
              simp only [Act.put, List.setIfInBounds_toArray, List.set_cons_zero, List.set_cons_succ]
              refine wpAnyH_take (i := 2) (v := .int .u8 (u : Int)) (lit rfl) (by kernel_rfl) (by kernel_rfl) (by kernel_rfl) (fun _ _ _ h => h) (Or.inl ⟨by rfl, ?_⟩) hSd ?_
              · rintro w6 ⟨k1, k2⟩
                go_simp
              simp only [Act.put, List.setIfInBounds_toArray, List.set_cons_zero, List.set_cons_succ]
              refine wpAnyH_take (i := 3) (v := .int .i64 (u : Int)) (lit rfl) (by kernel_rfl) (by kernel_rfl) (by kernel_rfl) (fun _ _ _ h => h) (Or.inl ⟨by rfl, ?_⟩) hSd ?_
              · rintro w6 ⟨k1, k2⟩
                go_simp
              simp only [Act.put, List.setIfInBounds_toArray, List.set_cons_zero, List.set_cons_succ]
              refine wpAnyH_take (i := 4) (v := .slice (some ⟨gA, oA, none⟩) k c2) (lit rfl) (by kernel_rfl) (by kernel_rfl) (by kernel_rfl) (fun _ _ _ h => h) (Or.inl ⟨by rfl, ?_⟩) hSd ?_
              · rintro w6 ⟨k1, k2⟩
                go_simp
              simp only [Act.put, List.setIfInBounds_toArray, List.set_cons_zero, List.set_cons_succ]
              refine wpAnyH_take (i := 5) (v := .int .i64 (k : Int)) (lit rfl) (by kernel_rfl) (by kernel_rfl) (by kernel_rfl) (fun _ _ _ h => h) (Or.inl ⟨by rfl, ?_⟩) hSd ?_
              · rintro w6 ⟨k1, k2⟩
                go_simp
              simp only [Act.put, List.setIfInBounds_toArray, List.set_cons_zero, List.set_cons_succ]
              refine wpAnyH_take (i := 6) (v := .int .i64 (kk : Int)) (lit rfl) (by kernel_rfl) (by kernel_rfl) (by kernel_rfl) (fun _ _ _ h => h) (Or.inl ⟨by rfl, ?_⟩) hSd ?_
              · rintro w6 ⟨k1, k2⟩
                go_simp
              simp only [Act.put, List.setIfInBounds_toArray, List.set_cons_zero, List.set_cons_succ]
              refine wpAnyH_take (i := 7) (v := .pointer (some ⟨ga, oa + kk, none⟩)) (lit rfl) (by kernel_rfl) (by kernel_rfl) (by kernel_rfl) (fun _ _ _ h => h) (Or.inl ⟨by rfl, ?_⟩) hSd ?_
              · rintro w6 ⟨k1, k2⟩
                go_simp
              simp only [Act.put, List.setIfInBounds_toArray, List.set_cons_zero, List.set_cons_succ]
              refine wpAnyH_take (i := 8) (v := .int .i64 px) (lit rfl) (by kernel_rfl) (by kernel_rfl) (by kernel_rfl) (fun _ _ _ h => h) (Or.inl ⟨by rfl, ?_⟩) hSd ?_
              · rintro w6 ⟨k1, k2⟩
                go_simp
              simp only [Act.put, List.setIfInBounds_toArray, List.set_cons_zero, List.set_cons_succ]
              refine wpAnyH_take (i := 9) (v := .slice (some ⟨gA, oA, none⟩) k c2) (lit rfl) (by kernel_rfl) (by kernel_rfl) (by kernel_rfl) (fun _ _ _ h => h) (Or.inl ⟨by rfl, ?_⟩) hSd ?_
              · rintro w6 ⟨k1, k2⟩
                go_simp
              simp only [Act.put, List.setIfInBounds_toArray, List.set_cons_zero, List.set_cons_succ]
              refine wpAnyH_take (i := 10) (v := .int .u8 (u : Int)) (lit rfl) (by kernel_rfl) (by kernel_rfl) (by kernel_rfl) (fun _ _ _ h => h) (Or.inl ⟨by rfl, ?_⟩) hSd ?_
              · rintro w6 ⟨k1, k2⟩
                go_simp
              simp only [Act.put, List.setIfInBounds_toArray, List.set_cons_zero, List.set_cons_succ]
              refine wpAnyH_take (i := 11) (v := .int .i64 (u : Int)) (lit rfl) (by kernel_rfl) (by kernel_rfl) (by kernel_rfl) (fun _ _ _ h => h) (Or.inl ⟨by rfl, ?_⟩) hSd ?_
              · rintro w6 ⟨k1, k2⟩
                go_simp
              simp only [Act.put, List.setIfInBounds_toArray, List.set_cons_zero, List.set_cons_succ]
              refine wpAnyH_take (i := 12) (v := .slice (some ⟨gA, oA, none⟩) k c2) (lit rfl) (by kernel_rfl) (by kernel_rfl) (by kernel_rfl) (fun _ _ _ h => h) (Or.inl ⟨by rfl, ?_⟩) hSd ?_
              · rintro w6 ⟨k1, k2⟩
                go_simp
              simp only [Act.put, List.setIfInBounds_toArray, List.set_cons_zero, List.set_cons_succ]
              refine wpAnyH_take (i := 13) (v := .int .i64 (k : Int)) (lit rfl) (by kernel_rfl) (by kernel_rfl) (by kernel_rfl) (fun _ _ _ h => h) (Or.inl ⟨by rfl, ?_⟩) hSd ?_
              · rintro w6 ⟨k1, k2⟩
                go_simp
              simp only [Act.put, List.setIfInBounds_toArray, List.set_cons_zero, List.set_cons_succ]
              refine wpAnyH_take (i := 14) (v := .int .i64 (kk : Int)) (lit rfl) (by kernel_rfl) (by kernel_rfl) (by kernel_rfl) (fun _ _ _ h => h) (Or.inl ⟨by rfl, ?_⟩) hSd ?_
              · rintro w6 ⟨k1, k2⟩
                go_simp
              simp only [Act.put, List.setIfInBounds_toArray, List.set_cons_zero, List.set_cons_succ]
              refine wpAnyH_take (i := 15) (v := .pointer (some ⟨gA, oA + kk, none⟩)) (lit rfl) (by kernel_rfl) (by kernel_rfl) (by kernel_rfl) (fun _ _ _ h => h) (Or.inl ⟨by rfl, ?_⟩) hSd ?_
              · rintro w6 ⟨k1, k2⟩
                go_simp
              simp only [Act.put, List.setIfInBounds_toArray, List.set_cons_zero, List.set_cons_succ]
              refine wpAnyH_take (i := 16) (v := .slice y.a 128 y.c) (lit rfl) (by kernel_rfl) (by kernel_rfl) (by kernel_rfl) (fun _ _ _ h => h) (Or.inl ⟨by rfl, ?_⟩) hSd ?_
              · rintro w6 ⟨k1, k2⟩
                go_simp
              simp only [Act.put, List.setIfInBounds_toArray, List.set_cons_zero, List.set_cons_succ]
              refine wpAnyH_ready (rs := [17]) (by kernel_rfl) (by simp) ?_
              refine AllReadyH.cons (lit rfl) (fun K5 hK5 => ?_) AllReadyH.nil
              refine step_open rfl ?_
              go_simp
              go_at_call 18
              refine (HWR.out _ (Below.refl _ _).drew).mono ?_
              rintro e5 w5 ⟨rfl, T5, z5, t5⟩
              have Z5 := Lib.hid z5
              have P5 := Lib.hid (P.out.drew9.tn t5)
              have hS5 : w5.cell? ⟨gA, oA + kk, none⟩ = some (.slice y.a 128 y.c) ∧ w5.cell? ⟨ga, oa + kk, none⟩ = some (.int .i64 px) := ⟨HCK.out w5 T5 P5.out, HCA.out w5 Z5.out.bel⟩
              clear z5 t5
              refine hK5.out _ _ hS5 (fun _ => ?_)
              clear hK5 K5
              refine wpAnyH_done (by kernel_rfl) ?_ _
              refine hK _ _ ?_
              have hc05 := HP0.out w5 Z5.out.bel
              have HL5 := Lib.hid (HLAST.out w5 T5 Z5.out)
              go_wp2_with (first
                | (go_at_call 20; go_loud ((with_reducible refine HL5.out.mono ?_); rintro e w6 ⟨A6, n6, c6, B6, m6, d6, rfl, hI6, _, b6⟩; have hn6 : n6 = n := hI6.len.trans HLL.out.symm; subst hn6; have I6 := Lib.hid hI6; have BB6 := Lib.hid (below_step Z5.out.bel b6); clear hI6 b6))
                | (go_at_call 22; (with_reducible refine (HR1.out _ _ _ I6.out BB6.out).mono ?_); rintro e w7 ⟨rfl, b7⟩; have BB7 := Lib.hid (below_step BB6.out b7); clear b7))
              go_ret
              exact ⟨rfl, BB7.out⟩
      · have hp : putL l a = ([], 1) := by unfold putL; rw [if_neg hg]
        rw [hp] at HPU
        clear hg hp h hB ht hs hn
        go_enter Tryd.func7, Tryd.ntmps7
        go_wp2_with (first
          | (go_at_call 8; (with_reducible refine HAW.out.mono ?_); rintro e w1 ⟨rfl, b1⟩; have B1 := Lib.hid b1; clear b1)
          | (go_at_call 9; go_loud ((with_reducible refine (HPU.out _ B1.out).mono ?_); rintro e w2 ⟨A2, n2, c2, q, rfl, hC, hq, hR, b2, hRw⟩; have hn2 : n2 = 0 := (hC.len.trans (by rw [← lq_len, hq]; rfl)); subst hn2; have B2 := Lib.hid (below_step B1.out b2); clear hC hq hR b2 hRw)))
        go_ret
        exact ⟨rfl, B2.out⟩

end Go.Proofs.YthcjledpjlpfaaaDoor
