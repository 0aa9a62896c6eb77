import Derived.Test.YthcjledpjlpfaaaDoorJ18
import Derived.Test.YthcjledpjlpfaaaDoorJ11
/- Of a claim's texts, joined: LiBack. No statement but in the last. -/
namespace Go.Proofs.YthcjledpjlpfaaaDoor
open Go.RowKit
set_option linter.unusedVariables false

theorem own_tells (f n kk : Nat) (h : ownL (f : Int) (n : Int) = kk) : needL (((f - kk : Nat) : Int) + (n : Int)) ≤ kk ∧ (0 < kk → ¬ needL (((f + 1 - kk : Nat) : Int) + (n : Int)) ≤ kk - 1) := by
  have h1 := own_least (f : Int) (n : Int) kk
  have h2 := own_least (f : Int) (n : Int) (kk - 1)
  rw [Int.toNat_natCast, Int.toNat_natCast, h] at h1 h2
  refine ⟨h1.2 (Nat.le_refl _), fun h0 hq => ?_⟩
  rw [show f - (kk - 1) = f + 1 - kk by omega] at h2
  have := h2.1 hq
  omega
set_option maxRecDepth 100000 in
set_option maxHeartbeats 8000000 in
theorem walkLiBack (A : Option Addr) (n c : Nat) (l : List Int) (B : Option Addr) (m d : Nat) (a : List Int) (W : World) (ht : Tab W) (h : Ints6 W A n l) (hc : n ≤ c) (hcm : c ≤ maxLen) (hB : Ints6 W B m a) (hd : m ≤ d) (hdm : d ≤ maxLen) :
    Calls Tryd.prog 5 #[.slice A n c, .slice B m d] W fun e W' => e = .returned (.bool true) ∧ Below W.heap.size W W' := by
  have hmx : Tryd.prog.follows .mixedOrders = true := by kernel_rfl
  have hcI : (n : Int) ≤ 9223372036854775807 := by unfold maxLen at hcm; omega
  have hdI : (m : Int) ≤ 9223372036854775807 := by unfold maxLen at hdm; omega
  have HAW := Lib.hid (awake11_any W ht)
  by_cases hs : 400 < n
  · have hsI : (400 : Int) < (n : Int) := by omega
    clear hc hcm h hd hdm hB
    go_enter Tryd.func5, Tryd.ntmps5
    go_wp2_with (go_at_call 8; (with_reducible refine HAW.out.mono ?_); rintro e w1 ⟨rfl, b1⟩; have B1 := Lib.hid b1; clear b1)
    go_ret
    exact ⟨rfl, B1.out⟩
  · by_cases hn : 20 < m
    · have hsI : ¬ (400 : Int) < (n : Int) := by omega
      have hnI : (20 : Int) < (m : Int) := by omega
      clear hc hcm h hd hdm hB
      go_enter Tryd.func5, Tryd.ntmps5
      go_wp2_with (go_at_call 8; (with_reducible refine HAW.out.mono ?_); rintro e w1 ⟨rfl, b1⟩; have B1 := Lib.hid b1; clear b1)
      go_ret
      exact ⟨rfl, B1.out⟩
    · have hsI : ¬ (400 : Int) < (n : Int) := by omega
      have hnI : ¬ (20 : Int) < (m : Int) := by omega
      have hn4 : n ≤ 400 := by omega
      have hm2 : m ≤ 20 := by omega
      have HPU : Hid (∀ w1, Below W.heap.size W w1 → Calls Tryd.prog 9 #[.slice A n c, .slice B m d] w1 (PutEndL l a w1)) := Lib.hid (fun w1 b1 => fPut_any l a A n c B m d w1 (ht.below b1) (h.below9 b1) (hB.below9 b1) (by omega) (by omega) hc hcm)
      unfold PutEndL at HPU
      by_cases hg : goodL l a
      · have hp : putL l a = (pgsL l a, 0) := by unfold putL; rw [if_pos hg]
        rw [hp] at HPU
        have HG := Lib.hid hg
        have HLN := Lib.hid hB.len
        have HLL := Lib.hid h.len
        have hgc := fun w1 T D AD N ws (hz : Dz W w1 T 0 D AD N [lz 1000 ws]) p => fGet_any 0 p (ht.below hz.bel) hz.dk (rdE_in (x := 0) (by intro r hr; obtain rfl := List.mem_singleton.1 hr; show 1000 ≤ 1000; decide))
        have HGC := Lib.hid hgc
        have HPX : Hid (∀ k, k < m → ∃ ga oa, B = some ⟨ga, oa, none⟩ ∧ 2 ≤ a.getD k 0 ∧ a.getD k 0 ≤ 999 ∧ (∀ w1, Below W.heap.size W w1 → w1.cell? ⟨ga, oa + k, none⟩ = some (.int .i64 (a.getD k 0))) ∧ (∀ w1, Below W.heap.size W w1 → w1.cell? ⟨ga, oa, none⟩ = some (.int .i64 (a.getD 0 0)))) := Lib.hid (fun k hk => by
          have h1 := getD_some (l := a) (j := k) (by rw [← HLN.out]; exact hk)
          have h0 := getD_some (l := a) (j := 0) (by rw [← HLN.out]; omega)
          obtain ⟨g', o', rfl, hcc⟩ := hB.at_ h1
          have h2 := okA_pg HG.out.2.2 h1
          exact ⟨g', o', rfl, h2.1, h2.2, fun w1 b => cell_below hcc b, fun w1 b => cell_below (hB.cell6 h0) b⟩)
        have HNW : Hid (∀ w2, Below W.heap.size W w2 → ∀ X2, w2.alloc (.cells #[.int .i64 1000] 3) = X2 → Calls Tryd.prog 16 #[.slice (some ⟨w2.heap.size, 0, none⟩) 1 1] X2 fun e w' => ∃ D A T', e = .returned (.tuple #[.pointer (some ⟨D, 0, none⟩), .int .i64 0]) ∧ Dz W w' T' 0 D A 0 [lz 1000 []] ∧ Tn noT 0 X2 T' w' ∧ Below X2.heap.size X2 w') := Lib.hid (fun w2 b X2 e => by
          subst e
          exact New_z (w0 := W) (c := 1) 0 (ints_lit w2 [1000] _ rfl) (lo_none _ _) (b.alloc b.size _) (by decide))
        have HR1 := Lib.hid (fun A4 c4 w1 (h4 : Ints6 w1 A4 n l) (b1 : Below W.heap.size W w1) => r3Ints_z l A4 A n c4 c w1 h.len h4.reads (h.below9 b1).reads (by omega))
        have HR2 := Lib.hid (fun A4 c4 w1 (h4 : Ints6 w1 A4 m a) (b1 : Below W.heap.size W w1) => r3Ints_z a A4 B m c4 d w1 hB.len h4.reads (hB.below9 b1).reads (by omega))
        have HOW := Lib.hid (fun (f : Nat) (hf : f ≤ 1000) w1 => fOwn_any (f : Int) (n : Int) (by omega) (by omega) w1)
        have HND := Lib.hid (fun (z : Int) (hz : z ≤ 100000) w1 => fNeed_any z (by omega) w1)
        clear hg hp h hB hgc ht hs hn
        go_enter Tryd.func5, Tryd.ntmps5
        go_wp2_with (first
          | (go_at_call 8; (with_reducible refine HAW.out.mono ?_); rintro e w1 ⟨rfl, b1⟩; have B1 := Lib.hid b1; clear b1)
          | (go_at_call 9; go_loud ((with_reducible refine (HPU.out _ B1.out).mono ?_); rintro e w2 ⟨A2, n2, c2, q, rfl, hC, hq, hR, b2, hRw⟩; have hn2 : n2 = m := (hC.len.trans ((lq_pgsL hq).1.trans HLN.out.symm)); subst hn2; have P2 := Lib.hid (PgT.of_putL (T := noT) (l := l) (a := a) hC (by have := HG.out; unfold putL; rw [if_pos this]; exact hq) hR hRw (fun _ _ => rfl)); have HQ := Lib.hid hq; have B2 := Lib.hid (below_step B1.out b2); obtain ⟨X2, hX2⟩ : ∃ X2, w2.alloc (.cells #[.int .i64 1000] 3) = X2 := ⟨_, rfl⟩; have BX := Lib.hid (show Below w2.heap.size w2 X2 from hX2 ▸ (Below.refl _ w2).alloc (Nat.le_refl _) _); have HX2 := Lib.hid hX2; clear hC hq hR b2 hRw hX2))
          | (go_at_call 16; go_loud ((try rw [HX2.out]); (with_reducible refine (HNW.out _ B2.out _ HX2.out).mono ?_); rintro e w3 ⟨D, AD, T3, rfl, hz3, ht3, _⟩; have Z3 := Lib.hid hz3; have P3 := Lib.hid ((P2.out.below BX.out).tn ht3); clear hz3 ht3)))
        have HQL : Hid (q.length = n2) := Lib.hid ((lq_pgsL HQ.out).1.trans HLN.out.symm)
        go_loopw [10, 11] (fun v i wr => ∃ (k : Nat) (T' : Tg), k ≤ n2 ∧ i = .int .i64 (k : Int) ∧ v = .int .i64 (if k = 0 then 0 else a.getD 0 0) ∧ Dz W wr T' 0 D AD k [lz 1000 (wsL l a k)] ∧ PgT wr T' A2 n2 c2 q) (fun _ i _ => n2 - (intOf i).toNat)
        case atStart => exact ⟨0, T3, Nat.zero_le _, rfl, rfl, Z3.out, P3.out⟩
        case round =>
          obtain ⟨k, T', hk, rfl, rfl, hz, hp⟩ := hrel
          have Z := Lib.hid hz
          have P := Lib.hid hp
          clear hz hp
          by_cases hlt : k < n2
          · have hqk : k < q.length := by rw [HQL.out]; exact hlt
            obtain ⟨gA, oA, rfl, -⟩ := P.out.at hqk
            have HCK : Hid (∀ w5 T5, PgT w5 T5 (some ⟨gA, oA, none⟩) n2 c2 q → w5.cell? ⟨gA, oA + k, none⟩ = some (.slice (q[k]).a 128 (q[k]).c)) := Lib.hid (fun w5 T5 h => by
              obtain ⟨g', o', e, hc⟩ := h.at hqk
              injection e with e
              injection e with e1 e2 _
              subst e1 e2
              rw [(h.each _ (List.getElem_mem hqk)).2.1] at hc
              exact hc)
            obtain ⟨ga, oa, rfl, hp1, hp2, hp3, hp0⟩ := HPX.out k hlt
            have HCA := Lib.hid hp3
            have HC0 := Lib.hid hp0
            have HWR : Hid (∀ w5, Below wr.heap.size wr w5 → Calls Tryd.prog 18 #[.pointer (some ⟨D, 0, none⟩), .int .i64 0, .int .i64 (a.getD k 0), .slice (q[k]).a 128 (q[k]).c] w5 (DzEnd (.int .i64 0) W w5 T' 0 D AD (k + 1) [lz 1000 (wsL l a (k + 1))])) := Lib.hid (fun w5 b5 => by
              obtain ⟨hkq, hw⟩ := step_writeL (r := 0) (m := 1000) (rs := [lz 1000 (wsL l a k)]) (Z.out.below b5) (by omega) rfl (P.out.below b5) HQ.out HG.out.2.2 (by rw [← HLN.out]; exact hlt) (by omega)
              rw [wsL_snoc]
              exact hw)
            have hif : (if k + 1 = 0 then (0 : Int) else a.getD 0 0) = a.getD 0 0 := if_neg (by omega)
            have HIF := Lib.hid hif
            generalize (if k = 0 then (0 : Int) else a.getD 0 0) = vf
            generalize hpx : a.getD k 0 = px at HCA HWR hp1 hp2
            generalize hpz : a.getD 0 0 = pz at HC0 HIF
            generalize q[k] = y at HCK HWR
            have hSd : (fun w' : World => w'.cell? ⟨gA, oA + k, none⟩ = some (.slice y.a 128 y.c) ∧ w'.cell? ⟨ga, oa + k, none⟩ = some (.int .i64 px)) wr.drew := ⟨HCK.out wr T' P.out, HCA.out wr Z.out.bel⟩
            have hkI : (k : Int) < (n2 : Int) := by omega
            have hk0 : (0 : Int) ≤ (k : Int) := by omega
            have hnz : (0 : Int) < (n2 : Int) := by omega
            have HPZ := Lib.hid hpz
            clear hpx hp3 hp0 hqk hif hpz
            go_wp2
            rename_i K hK
            refine wp_held (fun w' : World => w'.cell? ⟨gA, oA + k, none⟩ = some (.slice y.a 128 y.c) ∧ w'.cell? ⟨ga, oa + k, none⟩ = some (.int .i64 px)) K hmx ?_ (fun _ _ h => h)
            refine wpAnyH_take (i := 0) (v := .slice (some ⟨gA, oA, none⟩) n2 c2) (lit rfl) (by kernel_rfl) (by kernel_rfl) (by kernel_rfl) (fun _ _ _ h => h) (Or.inl ⟨by rfl, ?_⟩) hSd ?_
            · rintro w6 ⟨k1, k2⟩
              go_simp
            simp only [Act.put, List.setIfInBounds_toArray, List.set_cons_zero, List.set_cons_succ]
            refine wpAnyH_take (i := 1) (v := .int .i64 (k : Int)) (lit rfl) (by kernel_rfl) (by kernel_rfl) (by kernel_rfl) (fun _ _ _ h => h) (Or.inl ⟨by rfl, ?_⟩) hSd ?_
            · rintro w6 ⟨k1, k2⟩
              go_simp
            simp only [Act.put, List.setIfInBounds_toArray, List.set_cons_zero, List.set_cons_succ]
            refine wpAnyH_take (i := 2) (v := .pointer (some ⟨gA, oA + k, none⟩)) (lit rfl) (by kernel_rfl) (by kernel_rfl) (by kernel_rfl) (fun _ _ _ h => h) (Or.inl ⟨by rfl, ?_⟩) hSd ?_
            · rintro w6 ⟨k1, k2⟩
              go_simp
            simp only [Act.put, List.setIfInBounds_toArray, List.set_cons_zero, List.set_cons_succ]
            refine wpAnyH_take (i := 3) (v := .slice y.a 128 y.c) (lit rfl) (by kernel_rfl) (by kernel_rfl) (by kernel_rfl) (fun _ _ _ h => h) (Or.inl ⟨by rfl, ?_⟩) hSd ?_
            · rintro w6 ⟨k1, k2⟩
              go_simp
            simp only [Act.put, List.setIfInBounds_toArray, List.set_cons_zero, List.set_cons_succ]
            refine wpAnyH_take (i := 4) (v := .int .i64 128) (lit rfl) (by kernel_rfl) (by kernel_rfl) (by kernel_rfl) (fun _ _ _ h => h) (Or.inl ⟨by rfl, ?_⟩) hSd ?_
            · rintro w6 ⟨k1, k2⟩
              go_simp
            simp only [Act.put, List.setIfInBounds_toArray, List.set_cons_zero, List.set_cons_succ]
            refine wpAnyH_take (i := 5) (v := .bool false) (lit rfl) (by kernel_rfl) (by kernel_rfl) (by kernel_rfl) (fun _ _ _ h => h) (Or.inl ⟨by rfl, ?_⟩) hSd ?_
            · rintro w6 ⟨k1, k2⟩
              go_simp
            simp only [Act.put, List.setIfInBounds_toArray, List.set_cons_zero, List.set_cons_succ]
            refine wpAnyH_take (i := 6) (v := .bool false) (lit rfl) (by kernel_rfl) (by kernel_rfl) (by kernel_rfl) (fun _ _ _ h => h) (Or.inl ⟨by rfl, ?_⟩) hSd ?_
            · rintro w6 ⟨k1, k2⟩
              go_simp
            simp only [Act.put, List.setIfInBounds_toArray, List.set_cons_zero, List.set_cons_succ]
            refine wpAnyH_take (i := 7) (v := .pointer (some ⟨D, 0, none⟩)) (lit rfl) (by kernel_rfl) (by kernel_rfl) (by kernel_rfl) (fun _ _ _ h => h) (Or.inl ⟨by rfl, ?_⟩) hSd ?_
            · rintro w6 ⟨k1, k2⟩
              go_simp
            simp only [Act.put, List.setIfInBounds_toArray, List.set_cons_zero, List.set_cons_succ]
            refine wpAnyH_take (i := 8) (v := .slice (some ⟨ga, oa, none⟩) n2 d) (lit rfl) (by kernel_rfl) (by kernel_rfl) (by kernel_rfl) (fun _ _ _ h => h) (Or.inl ⟨by rfl, ?_⟩) hSd ?_
            · rintro w6 ⟨k1, k2⟩
              go_simp
            simp only [Act.put, List.setIfInBounds_toArray, List.set_cons_zero, List.set_cons_succ]
            refine wpAnyH_take (i := 9) (v := .int .i64 (k : Int)) (lit rfl) (by kernel_rfl) (by kernel_rfl) (by kernel_rfl) (fun _ _ _ h => h) (Or.inl ⟨by rfl, ?_⟩) hSd ?_
            · rintro w6 ⟨k1, k2⟩
              go_simp
            simp only [Act.put, List.setIfInBounds_toArray, List.set_cons_zero, List.set_cons_succ]
            refine wpAnyH_take (i := 10) (v := .pointer (some ⟨ga, oa + k, none⟩)) (lit rfl) (by kernel_rfl) (by kernel_rfl) (by kernel_rfl) (fun _ _ _ h => h) (Or.inl ⟨by rfl, ?_⟩) hSd ?_
            · rintro w6 ⟨k1, k2⟩
              go_simp
            simp only [Act.put, List.setIfInBounds_toArray, List.set_cons_zero, List.set_cons_succ]
            refine wpAnyH_take (i := 11) (v := .int .i64 px) (lit rfl) (by kernel_rfl) (by kernel_rfl) (by kernel_rfl) (fun _ _ _ h => h) (Or.inl ⟨by rfl, ?_⟩) hSd ?_
            · rintro w6 ⟨k1, k2⟩
              go_simp
            simp only [Act.put, List.setIfInBounds_toArray, List.set_cons_zero, List.set_cons_succ]
            refine wpAnyH_take (i := 12) (v := .slice (some ⟨gA, oA, none⟩) n2 c2) (lit rfl) (by kernel_rfl) (by kernel_rfl) (by kernel_rfl) (fun _ _ _ h => h) (Or.inl ⟨by rfl, ?_⟩) hSd ?_
            · rintro w6 ⟨k1, k2⟩
              go_simp
            simp only [Act.put, List.setIfInBounds_toArray, List.set_cons_zero, List.set_cons_succ]
            refine wpAnyH_take (i := 13) (v := .int .i64 (k : Int)) (lit rfl) (by kernel_rfl) (by kernel_rfl) (by kernel_rfl) (fun _ _ _ h => h) (Or.inl ⟨by rfl, ?_⟩) hSd ?_
            · rintro w6 ⟨k1, k2⟩
              go_simp
            simp only [Act.put, List.setIfInBounds_toArray, List.set_cons_zero, List.set_cons_succ]
            refine wpAnyH_take (i := 14) (v := .pointer (some ⟨gA, oA + k, none⟩)) (lit rfl) (by kernel_rfl) (by kernel_rfl) (by kernel_rfl) (fun _ _ _ h => h) (Or.inl ⟨by rfl, ?_⟩) hSd ?_
            · rintro w6 ⟨k1, k2⟩
              go_simp
            simp only [Act.put, List.setIfInBounds_toArray, List.set_cons_zero, List.set_cons_succ]
            refine wpAnyH_take (i := 15) (v := .slice y.a 128 y.c) (lit rfl) (by kernel_rfl) (by kernel_rfl) (by kernel_rfl) (fun _ _ _ h => h) (Or.inl ⟨by rfl, ?_⟩) hSd ?_
            · rintro w6 ⟨k1, k2⟩
              go_simp
            simp only [Act.put, List.setIfInBounds_toArray, List.set_cons_zero, List.set_cons_succ]
            refine wpAnyH_ready (rs := [16]) (by kernel_rfl) (by simp) ?_
            refine AllReadyH.cons (lit rfl) (fun K5 hK5 => ?_) AllReadyH.nil
            go_simp
            go_at_call 18
            refine (HWR.out _ (Below.refl _ _).drew).mono ?_
            rintro e5 w5 ⟨rfl, T5, z5, t5⟩
            have Z5 := Lib.hid z5
            have P5 := Lib.hid (P.out.drew9.tn t5)
            have hS5 : w5.cell? ⟨gA, oA + k, none⟩ = some (.slice y.a 128 y.c) ∧ w5.cell? ⟨ga, oa + k, none⟩ = some (.int .i64 px) := ⟨HCK.out w5 T5 P5.out, HCA.out w5 Z5.out.bel⟩
            clear z5 t5
            refine hK5.out _ _ hS5 (fun _ => ?_)
            clear hK5 K5
            refine wpAnyH_take (i := 17) (v := .bool false) (lit rfl) (by kernel_rfl) (by kernel_rfl) (by kernel_rfl) (fun _ _ _ h => h) (Or.inl ⟨by rfl, ?_⟩) hS5 ?_
            · rintro w6 ⟨k1, k2⟩
              go_simp
            simp only [Act.put, List.setIfInBounds_toArray, List.set_cons_zero, List.set_cons_succ]
            refine wpAnyH_take (i := 18) (v := .bool false) (lit rfl) (by kernel_rfl) (by kernel_rfl) (by kernel_rfl) (fun _ _ _ h => h) (Or.inl ⟨by rfl, ?_⟩) hS5 ?_
            · rintro w6 ⟨k1, k2⟩
              go_simp
            simp only [Act.put, List.setIfInBounds_toArray, List.set_cons_zero, List.set_cons_succ]
            refine wpAnyH_done (by kernel_rfl) ?_ _
            refine hK _ _ ?_
            have hc05 := HC0.out w5 Z5.out.bel
            go_wp2
            go_roundw
            case rel => exact ⟨k + 1, T5, by omega, by go_num, by rw [HIF.out], Z5.out, P5.out⟩
            case measure => simp [intOf]; omega
          · obtain rfl : k = n2 := by omega
            have hv0 : (if k = 0 then (0 : Int) else a.getD 0 0) = a.getD 0 0 := by
              by_cases h0 : k = 0
              · rw [if_pos h0, getD_end (by rw [← HLN.out]; omega)]
              · rw [if_neg h0]
            rw [hv0]
            have hrd := rd_lzL (rs := [lz 1000 (wsL l a k)]) (k := 0) rfl HG.out.2.2 (fun x hx => by have := okA_mem HG.out.2.2 hx; omega) (fun j hj => pgW_wsL HG.out.2.2 k j (by rw [HLN.out]; exact Nat.le_refl _) (by rw [HLN.out]; exact hj))
            have hge := HGC.out wr T' D AD k _ Z.out (a.getD 0 0)
            have hgr := getL_put HG.out (by rw [← HLN.out]; omega) hrd
            have hgr2 : getL (fun p => (rdL [lz 1000 (wsL l a k)] 0 p, rdE [lz 1000 (wsL l a k)] 0 p)) (a.getD 0 0) = (l, a, 0) := hgr
            rw [hgr2] at hge
            unfold GetEndL at hge
            have HGE := Lib.hid hge
            have HB := Lib.hid Z.out.bel
            generalize a.getD 0 0 = pz at HGE
            obtain ⟨wo, hwo⟩ : ∃ wo : World, wo = wr := ⟨_, rfl⟩
            subst hwo
            clear hv0 hrd hge hgr hgr2
            go_wp2_with (first
              | (go_at_call 20; go_loud ((with_reducible refine HGE.out.mono ?_); rintro e w4 ⟨A4, n4, c4, B4, m4, d4, rfl, hI4, hK4, b4⟩; have hn4' : n4 = n := hI4.len.trans HLL.out.symm; subst hn4'; have hm4' : m4 = k := hK4.len.trans HLN.out.symm; subst hm4'; have I4 := Lib.hid hI4; have K4 := Lib.hid hK4; have BB4 := Lib.hid (below_step HB.out b4); clear hI4 hK4 b4))
              | (go_at_call 22; (with_reducible refine (HR1.out _ _ _ I4.out BB4.out).mono ?_); rintro e w5 ⟨rfl, b5⟩; have BB5 := Lib.hid (below_step BB4.out b5); have K5 := Lib.hid (K4.out.below9 b5); clear b5)
              | (go_at_call 22; (with_reducible refine (HR2.out _ _ _ K5.out BB5.out).mono ?_); rintro e w6 ⟨rfl, b6⟩; have BB6 := Lib.hid (below_step BB5.out b6); clear b6))
            go_loopw [15] (fun i wr => ∃ f : Nat, i = .int .i64 (f : Int) ∧ f ≤ 210 ∧ Below W.heap.size W wr) (fun i _ => 210 - (intOf i).toNat)
            case atStart => exact ⟨0, rfl, by omega, BB6.out⟩
            case round =>
              obtain ⟨f, rfl, hf, hbf⟩ := hrel
              have HBF := Lib.hid hbf
              clear hbf
              by_cases hf2 : f < 200
              · have hfI : (f : Int) < 200 := by omega
                obtain ⟨kk, hkk⟩ : ∃ kk, ownL (f : Int) (n4 : Int) = kk := ⟨_, rfl⟩
                obtain ⟨ht1, ht2⟩ := own_tells f n4 kk hkk
                have hkb : kk ≤ 700 := by rw [← hkk]; unfold ownL; omega
                have HO := Lib.hid (HOW.out f (by omega))
                rw [hkk] at HO
                obtain ⟨p1, hp1⟩ : ∃ p1, f - kk = p1 := ⟨_, rfl⟩
                obtain ⟨p2, hp2⟩ : ∃ p2, f + 1 - kk = p2 := ⟨_, rfl⟩
                have HM1 : Hid (max ((f : Int) - (kk : Int)) 0 = (p1 : Int)) := Lib.hid (by omega)
                have HM2 : Hid (max ((f : Int) - (kk : Int) + 1) 0 = (p2 : Int)) := Lib.hid (by omega)
                rw [hp1] at ht1
                rw [hp2] at ht2
                have hpb1 : p1 ≤ 1000 := by omega
                have hpb2 : p2 ≤ 1000 := by omega
                have HN1 := Lib.hid (HND.out ((p1 : Int) + (n4 : Int)) (by omega))
                have HN2 := Lib.hid (HND.out ((p2 : Int) + (n4 : Int)) (by omega))
                have hz1b : needL ((p1 : Int) + (n4 : Int)) ≤ 100 := by unfold needL; omega
                have hz2b : needL ((p2 : Int) + (n4 : Int)) ≤ 100 := by unfold needL; omega
                generalize needL ((p1 : Int) + (n4 : Int)) = z1 at HN1 ht1 hz1b
                generalize needL ((p2 : Int) + (n4 : Int)) = z2 at HN2 ht2 hz2b
                have hz1I : ¬ (kk : Int) < (z1 : Int) := by omega
                by_cases hk0 : kk = 0
                · have hk0I : ¬ (0 : Int) < (kk : Int) := by omega
                  clear ht1 ht2 hkk hp1 hp2 hk0
                  go_wp2_with (first
                    | (go_at_call 14; (with_reducible refine (HO.out _).mono ?_); rintro e w6 ⟨rfl, rfl⟩)
                    | (go_at_call 11; (try rw [HM1.out]); (with_reducible refine (HN1.out _).mono ?_); rintro e w6 ⟨rfl, rfl⟩)
                    | (go_at_call 11; (try rw [HM2.out]); (with_reducible refine (HN2.out _).mono ?_); rintro e w6 ⟨rfl, rfl⟩))
                  go_roundw
                  case rel => exact ⟨f + 7, by go_num, by omega, HBF.out⟩
                  case measure => simp [intOf]; omega
                · have hk0I : (0 : Int) < (kk : Int) := by omega
                  have hz2I : ¬ (z2 : Int) ≤ (kk : Int) - 1 := by have := ht2 (by omega); omega
                  clear ht1 ht2 hkk hp1 hp2 hk0
                  go_wp2_with (first
                    | (go_at_call 14; (with_reducible refine (HO.out _).mono ?_); rintro e w6 ⟨rfl, rfl⟩)
                    | (go_at_call 11; (try rw [HM1.out]); (with_reducible refine (HN1.out _).mono ?_); rintro e w6 ⟨rfl, rfl⟩)
                    | (go_at_call 11; (try rw [HM2.out]); (with_reducible refine (HN2.out _).mono ?_); rintro e w6 ⟨rfl, rfl⟩))
                  go_roundw
                  case rel => exact ⟨f + 7, by go_num, by omega, HBF.out⟩
                  case measure => simp [intOf]; omega
              · have hfI : ¬ (f : Int) < 200 := by omega
                obtain ⟨wo, hwo⟩ : ∃ wo : World, wo = wr := ⟨_, rfl⟩
                subst hwo
                go_wp2
                go_ret
                exact ⟨rfl, HBF.out⟩
      · have hp : putL l a = ([], 1) := by unfold putL; rw [if_neg hg]
        rw [hp] at HPU
        clear hg hp h hB ht hs hn
        go_enter Tryd.func5, Tryd.ntmps5
        go_wp2_with (first
          | (go_at_call 8; (with_reducible refine HAW.out.mono ?_); rintro e w1 ⟨rfl, b1⟩; have B1 := Lib.hid b1; clear b1)
          | (go_at_call 9; go_loud ((with_reducible refine (HPU.out _ B1.out).mono ?_); rintro e w2 ⟨A2, n2, c2, q, rfl, hC, hq, hR, b2, hRw⟩; have hn2 : n2 = 0 := (hC.len.trans (by rw [← lq_len, hq]; rfl)); subst hn2; have B2 := Lib.hid (below_step B1.out b2); clear hC hq hR b2 hRw)))
        go_ret
        exact ⟨rfl, B2.out⟩

end Go.Proofs.YthcjledpjlpfaaaDoor
