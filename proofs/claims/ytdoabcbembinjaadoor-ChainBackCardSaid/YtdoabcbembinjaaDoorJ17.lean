import Derived.Test.YtdoabcbembinjaaDoorJ12
import Derived.Test.YtdoabcbembinjaaDoorJChw
import Derived.Test.YtdoabcbembinjaaDoorJ04
import Derived.Test.YtdoabcbembinjaaDoorJ06
import Derived.Test.YtdoabcbembinjaaDoorJ02
import Derived.Test.YtdoabcbembinjaaDoorJ05
/- Of a claim's texts, joined: Chaw ChPuts Arg9. No statement but in the last. -/
section
namespace Go.Proofs.YtdoabcbembinjaaDoor
open Go.RowKit
set_option linter.unusedVariables false

theorem rd_lz {rs : List Rg} {k n : Nat} {ws : List Wr} {s : List UInt8} {l : List Int} (hk : rs[k]? = some (lz n ws)) (ho : okP l) (hn : ∀ x ∈ l, x < n) (hws : ∀ j, j < l.length → pgW ws (l.getD j 0) = pageN s l j) :
    ∀ j x, l[j]? = some x → (fun p => (rdL rs (k : Int) p, rdE rs (k : Int) p)) x = (pageN s l j, 0) := fun j x hx => by
  have hj := (List.getElem?_eq_some_iff.1 hx).1
  have hp := okP_pg ho hx
  have hlt := hn x (List.mem_of_getElem? hx)
  have e : l.getD j 0 = x := by rw [List.getD_eq_getElem?_getD, hx]; rfl
  simp only
  rw [rdL_at hk (by omega) hlt, rdE_at hk (by omega) hlt, ← hws j hj, e]
theorem lq_pages {s : List UInt8} {l : List Int} {q : List Hd} (h : lq q = pagesN s l) : q.length = l.length ∧ ∀ k (hk : k < q.length), (q[k]).l = pageN s l k := by
  have hl : q.length = l.length := by
    have := congrArg List.length h
    rw [lq_len] at this
    simpa [pagesN] using this
  refine ⟨hl, fun k hk => ?_⟩
  have h1 : (lq q)[k]? = some (q[k]).l := lq_at q hk
  rw [h] at h1
  unfold pagesN at h1
  rw [List.getElem?_map, List.getElem?_range (by omega)] at h1
  injection h1 with h1
  exact h1.symm
def ex9 : List Int := [5, 3, 8]
theorem ex9_ok : goodP (val9 300) ex9 := by
  unfold goodP
  rw [val9_len]
  decide
theorem awake_step {wr : World} {W0 : World} {T : Tg} {D A N : Nat} {s : List UInt8} {l : List Int} {q : List Hd} {A3 : Option Addr} {n c3 : Nat} {k m : Nat} {rs : List Rg} {r : Nat} (hZ : Dz W0 wr T 0 D A N rs) (hN : N ≤ 1000) (hr : rs[r]? = some (lz m (wsN s l k))) (hP : PgT wr T A3 n c3 q) (hq : lq q = pagesN s l) (ho : okP l) (hk : k < l.length) (hm : l.getD k 0 < m) :
    ∃ hkq : k < q.length, Calls Tryd.prog 16 #[.pointer (some ⟨D, 0, none⟩), .int .i64 (r : Int), .int .i64 (l.getD k 0), .slice (q[k]).a 128 (q[k]).c] wr (DzEnd (.int .i64 0) W0 wr T 0 D A (N + 1) (rs.set r (lz m (wsN s l (k + 1))))) := by
  obtain ⟨h1, h2⟩ := lq_pages hq
  have hkq : k < q.length := by omega
  refine ⟨hkq, ?_⟩
  have hx := hP.each _ (List.getElem_mem hkq)
  have hp := okP_pg ho (getD_some hk)
  have := Write_p (b := (q[k]).l) hZ hN hr (p := l.getD k 0) (by omega) hm hx.2.1 hx.1 hx.2.2
  rw [h2 k hkq, ← wsN_snoc, hx.2.1] at this
  exact this
set_option maxRecDepth 100000 in
set_option maxHeartbeats 8000000 in
theorem awake09_any (w : World) (ht : Tab w) : Calls Tryd.prog 8 #[] w fun e w' => e = .returned (.bool true) ∧ Below w.heap.size w w' := by
  have hmx : Tryd.prog.follows .mixedOrders = true := by kernel_rfl
  obtain ⟨W, hW⟩ : ∃ W, w.alloc (.cells #[.int .i64 9] 3) = W := ⟨_, rfl⟩
  have hI : Ints6 W (some ⟨w.heap.size, 0, none⟩) 1 [9] := hW ▸ ints_lit w [9] _ rfl
  have hBW : Below w.heap.size w W := hW ▸ (Below.refl _ w).alloc (Nat.le_refl _) _
  have HNew := Lib.hid (New_z (w0 := w) (c := 1) 0 hI (lo_none _ _) hBW (by decide))
  have HV : Hid (∀ w1, Calls Tryd.prog 22 #[.int .i64 300] w1 fun e w' => e = .returned (.string ⟨(val9 300).toArray⟩) ∧ Below w1.heap.size w1 w') := Lib.hid (fun w1 => value_any 300 (by decide) w1)
  have hvl := val9_len 300
  have hgood := ex9_ok
  have hput : putN (val9 300) ex9 = (pagesN (val9 300) ex9, 0) := by unfold putN; rw [if_pos hgood]
  generalize val9 300 = s at HV hvl hgood hput
  have HPU : Hid (∀ w1, Tab w1 → Below w.heap.size w w1 → ∀ w2, w1.alloc (.cells #[.int .i64 5, .int .i64 3, .int .i64 8] 3) = w2 → Calls Tryd.prog 9 #[.string ⟨s.toArray⟩, .slice (some ⟨w1.heap.size, 0, none⟩) 3 3] w2 (PutEnd s ex9 w2)) := Lib.hid (fun w1 t1 b1 w2 e => by
    subst e
    exact hPut_any s _ 3 3 ex9 _ (t1.below ((Below.refl _ w1).alloc (Nat.le_refl _) _)) (by omega) (ints_lit w1 [5, 3, 8] _ rfl) (by decide) (by decide) (by decide))
  unfold PutEnd at HPU
  rw [hput] at HPU
  have HT := Lib.hid ht
  have HG := Lib.hid hgood
  have HVL := Lib.hid hvl
  have HW := Lib.hid hW
  have HN1 := Lib.hid (fun w1 => hNeed_any 119 w1)
  have HN2 := Lib.hid (fun w1 => hNeed_any 120 w1)
  have HN3 := Lib.hid (fun w1 => hNeed_any 16 w1)
  rw [show needN 119 = 1 by decide] at HN1
  rw [show needN 120 = 2 by decide] at HN2
  rw [show needN 16 = 0 by decide] at HN3
  obtain ⟨sb, hsb⟩ : ∃ sb : ByteArray, (⟨s.toArray⟩ : ByteArray) = sb := ⟨_, rfl⟩
  rw [hsb] at HV HPU
  have HSB := Lib.hid hsb
  clear hI hBW hW hgood hput hvl ht hsb
  go_enter Tryd.func8, Tryd.ntmps8
  go_wp2_with (first
    | (go_at_call 14; go_loud ((try rw [HW.out]); (with_reducible refine HNew.out.mono ?_); rintro e w1 ⟨D, A, T1, rfl, h1, _, _⟩; have Z1 := Lib.hid h1; clear h1))
    | (go_at_call 22; go_loud ((with_reducible refine (HV.out _).mono ?_); rintro e w2 ⟨rfl, b2⟩; have Z2 := Lib.hid (Z1.out.below b2); obtain ⟨V2, hV2⟩ : ∃ V2, w2.alloc (.cells #[.int .i64 5, .int .i64 3, .int .i64 8] 3) = V2 := ⟨_, rfl⟩; have X2 := Lib.hid (Z2.out.below (hV2 ▸ (Below.refl _ w2).alloc (Nat.le_refl _) _)); have HV2 := Lib.hid hV2; clear b2 hV2))
    | (go_at_call 9; go_loud ((try rw [HV2.out]); (with_reducible refine (HPU.out _ (HT.out.below Z2.out.bel) Z2.out.bel _ HV2.out).mono ?_); rintro e w3 ⟨A3, n3, c3, q, rfl, hC, hq, hR, b3, hA⟩; have hn3 : n3 = 3 := hC.len.trans (lq_pages hq).1; subst hn3; have P3 := Lib.hid (PgT.of_put (s := s) (l := ex9) (w := V2) (T := T1) hC (by have := HG.out; unfold putN; rw [if_pos this]; exact hq) hR hA (fun g hg => X2.out.lo.un hg)); have Z3 := Lib.hid (X2.out.below b3); have HQ := Lib.hid hq; clear hC hR b3 hA hq)))
  go_loopw [5] (fun i wr => ∃ (k : Nat) (T' : Tg), k ≤ 3 ∧ i = .int .i64 (k : Int) ∧ Dz w wr T' 0 D A k [lz 9 (wsN s ex9 k)] ∧ PgT wr T' A3 3 c3 q) (fun i _ => 3 - (intOf i).toNat)
  case atStart => exact ⟨0, T1, by omega, rfl, Z3.out, P3.out⟩
  case round =>
    obtain ⟨k, T', hk, rfl, hz, hp⟩ := hrel
    have Z := Lib.hid hz
    have P := Lib.hid hp
    clear hz hp
    by_cases hlt : k < 3
    · have hqk : k < q.length := by rw [(lq_pages HQ.out).1]; exact hlt
      obtain ⟨gA, oA, rfl, ck⟩ := P.out.at hqk
      have hy := (P.out.each _ (List.getElem_mem hqk)).2.1
      obtain ⟨X, hX⟩ : ∃ X, (wr.alloc (.cells #[.int .i64 5, .int .i64 3, .int .i64 8] 3)).drew = X := ⟨_, rfl⟩
      have bX : Below wr.heap.size wr X := hX ▸ ((Below.refl _ wr).alloc (Nat.le_refl _) _).drew
      obtain ⟨hkq, hwr⟩ := awake_step (r := 0) (rs := [lz 9 (wsN s ex9 k)]) (Z.out.below bX) (by omega) rfl (P.out.below bX) HQ.out HG.out.2.2 hlt (by rcases k with _ | _ | _ | k <;> first | decide | omega)
      have hc5 : X.cell? ⟨wr.heap.size, k, none⟩ = some (.int .i64 (ex9.getD k 0)) := by
        rw [← hX]
        have := (Has.made wr 3 #[.int .i64 5, .int .i64 3, .int .i64 8]).cell k
        refine this.trans ?_
        rcases k with _ | _ | _ | k <;> first | rfl | omega
      have HCK : Hid (∀ w5 T5, PgT w5 T5 (some ⟨gA, oA, none⟩) 3 c3 q → w5.cell? ⟨gA, oA + k, none⟩ = some (.slice (q[k]).a 128 (q[k]).c)) := Lib.hid (fun w5 T5 h => by
        obtain ⟨g', o', e, hc⟩ := h.at hqk
        injection e with e
        injection e with e1 e2 _
        subst e1 e2
        rw [hy] at hc
        exact hc)
      rw [hy] at ck
      have hS1 := HCK.out X T' (P.out.below bX)
      generalize q[k] = y at ck hwr HCK hS1
      generalize ex9.getD k 0 = px at hc5 hwr
      have HWR := Lib.hid hwr
      have HPX := Lib.hid (P.out.below bX)
      have HX := Lib.hid hX
      have hS0 : wr.drew.cell? ⟨gA, oA + k, none⟩ = some (.slice y.a 128 y.c) := ck
      have ckd : wr.drew.cell? ⟨gA, oA + k, none⟩ = some (.slice y.a 128 y.c) := ck
      have hkI : (k : Int) < 3 := by omega
      have hk0 : (0 : Int) ≤ (k : Int) := by omega
      clear hwr hX bX hqk hkq hy
      go_wp2
      rename_i K hK
      refine wp_heldHQ (fun w' : World => w'.cell? ⟨gA, oA + k, none⟩ = some (.slice y.a 128 y.c)) hmx ?_
      refine wpAnyH_take (i := 0) (v := .pointer (some ⟨D, 0, none⟩)) rfl (by kernel_rfl) (by kernel_rfl) (by kernel_rfl) (fun _ _ _ h => h) (Or.inl ⟨by rfl, ?_⟩) hS0 ?_
      · rintro w6 k1
        go_simp
      simp only [Act.put, List.setIfInBounds_toArray, List.set_cons_zero, List.set_cons_succ, List.getElem_toArray, List.getElem_cons_zero]
      refine wpAnyH_take (i := 2) (v := .int .i64 (k : Int)) rfl (by kernel_rfl) (by kernel_rfl) (by kernel_rfl) (fun _ _ _ h => h) (Or.inl ⟨by rfl, ?_⟩) hS0 ?_
      · rintro w6 k1
        go_simp
      simp only [Act.put, List.setIfInBounds_toArray, List.set_cons_zero, List.set_cons_succ, List.getElem_toArray, List.getElem_cons_zero, List.getElem_cons_succ]
      refine wpAnyH_take (i := 5) (v := .slice (some ⟨gA, oA, none⟩) 3 c3) rfl (by kernel_rfl) (by kernel_rfl) (by kernel_rfl) (fun _ _ _ h => h) (Or.inl ⟨by rfl, ?_⟩) hS0 ?_
      · rintro w6 k1
        go_simp
      simp only [Act.put, List.setIfInBounds_toArray, List.set_cons_zero, List.set_cons_succ, List.getElem_toArray, List.getElem_cons_zero, List.getElem_cons_succ]
      refine wpAnyH_take (i := 6) (v := .int .i64 (k : Int)) rfl (by kernel_rfl) (by kernel_rfl) (by kernel_rfl) (fun _ _ _ h => h) (Or.inl ⟨by rfl, ?_⟩) hS0 ?_
      · rintro w6 k1
        go_simp
      simp only [Act.put, List.setIfInBounds_toArray, List.set_cons_zero, List.set_cons_succ, List.getElem_toArray, List.getElem_cons_zero, List.getElem_cons_succ]
      refine wpAnyH_take (i := 7) (v := .pointer (some ⟨gA, oA + k, none⟩)) rfl (by kernel_rfl) (by kernel_rfl) (by kernel_rfl) (fun _ _ _ h => h) (Or.inl ⟨by rfl, ?_⟩) hS0 ?_
      · rintro w6 k1
        go_simp
      simp only [Act.put, List.setIfInBounds_toArray, List.set_cons_zero, List.set_cons_succ, List.getElem_toArray, List.getElem_cons_zero, List.getElem_cons_succ]
      refine wpAnyH_take (i := 8) (v := .slice y.a 128 y.c) rfl (by kernel_rfl) (by kernel_rfl) (by kernel_rfl) (fun _ _ _ h => h) (Or.inl ⟨by rfl, ?_⟩) hS0 ?_
      · rintro w6 k1
        go_simp
      simp only [Act.put, List.setIfInBounds_toArray, List.set_cons_zero, List.set_cons_succ, List.getElem_toArray, List.getElem_cons_zero, List.getElem_cons_succ]
      refine wpAnyH_ready (rs := [1]) (by kernel_rfl) (by simp) ?_
      refine AllReadyH.cons rfl (fun K5 hK5 => ?_) AllReadyH.nil
      go_simp
      (try rw [HX.out])
      refine hK5.out _ _ hS1 (fun _ => ?_)
      clear hK5 K5
      refine wpAnyH_ready (rs := [3]) (by kernel_rfl) (by simp) ?_
      refine AllReadyH.cons rfl (fun K5 hK5 => ?_) AllReadyH.nil
      go_simp
      refine hK5.out _ _ hS1 (fun _ => ?_)
      clear hK5 K5
      refine wpAnyH_ready (rs := [4]) (by kernel_rfl) (by simp) ?_
      refine AllReadyH.cons rfl (fun K5 hK5 => ?_) AllReadyH.nil
      go_simp
      (try rw [hc5])
      (try go_simp)
      refine hK5.out _ _ hS1 (fun _ => ?_)
      clear hK5 K5
      refine wpAnyH_ready (rs := [9]) (by kernel_rfl) (by simp) ?_
      refine AllReadyH.cons rfl (fun K5 hK5 => ?_) AllReadyH.nil
      go_simp
      go_at_call 16
      refine HWR.out.mono ?_
      rintro e5 w5 ⟨rfl, T5, z5, t5⟩
      have Z5 := Lib.hid z5
      have P5 := Lib.hid (HPX.out.tn t5)
      have hS5 : w5.cell? ⟨gA, oA + k, none⟩ = some (.slice y.a 128 y.c) := HCK.out w5 T5 P5.out
      clear z5 t5
      refine hK5.out _ _ hS5 (fun _ => ?_)
      clear hK5 K5
      refine wpAnyH_done (by kernel_rfl) ?_ _
      refine hK _ _ ?_
      go_wp2
      go_roundw
      case rel => exact ⟨k + 1, T5, by omega, by go_num, Z5.out, P5.out⟩
      case measure => simp [intOf]; omega
    · obtain rfl : k = 3 := by omega
      have hgc := getC_put HG.out (rd_lz (rs := [lz 9 (wsN s ex9 3)]) (k := 0) rfl HG.out.2.2 (by decide) (fun j hj => pgW_ws HG.out.2.2 3 j (by decide) hj))
      rw [HVL.out] at hgc
      have hge : Calls Tryd.prog 18 #[.pointer (some ⟨D, 0, none⟩), .int .i64 0, .int .i64 5, .int .i64 300] wr (GetEnd (s, ex9, 0) wr) := by
        have := hGet_any 0 5 300 (HT.out.below Z.out.bel) Z.out.dk
        have e : getC (fun p => (rdL [lz 9 (wsN s ex9 3)] 0 p, rdE [lz 9 (wsN s ex9 3)] 0 p)) 300 5 = (s, ex9, 0) := hgc
        rw [e] at this
        exact this
      unfold GetEnd at hge
      rw [HSB.out] at hge
      have HGE := Lib.hid hge
      have HR3 := Lib.hid (fun A n c w1 (h : Ints6 w1 A n ex9) w2 (e : w1.alloc (.cells #[.int .i64 5, .int .i64 3, .int .i64 8] 3) = w2) => (r3Ints_z ex9 A (some ⟨w1.heap.size, 0, none⟩) 3 c 3 w2 rfl (h.below9 (e ▸ (Below.refl _ w1).alloc (Nat.le_refl _) _)).reads (e ▸ (ints_lit w1 [5, 3, 8] _ rfl).reads) (by decide)))
      obtain ⟨w3, hw3⟩ : ∃ w3 : World, w3 = wr := ⟨_, rfl⟩
      subst hw3
      have HB := Lib.hid Z.out.bel
      clear hgc hge
      go_wp2_with (first
        | (go_at_call 18; go_loud ((with_reducible refine HGE.out.mono ?_); rintro e w4 ⟨A4, n4, c4, rfl, hI4, b4⟩; have hn4 : n4 = 3 := hI4.len; subst hn4; have I4 := Lib.hid hI4; have B4 := Lib.hid (below_step HB.out b4); clear hI4 b4))
        | (go_at_call 11; (first | (with_reducible refine (HN1.out _).mono ?_) | (with_reducible refine (HN2.out _).mono ?_) | (with_reducible refine (HN3.out _).mono ?_)); rintro e w5 ⟨rfl, rfl⟩)
        | (go_at_call 22; go_loud ((with_reducible refine (HV.out _).mono ?_); rintro e w6 ⟨rfl, b6⟩; have I6 := Lib.hid (I4.out.below9 b6); have B6 := Lib.hid (below_step B4.out b6); obtain ⟨V6, hV6⟩ : ∃ V6, w6.alloc (.cells #[.int .i64 5, .int .i64 3, .int .i64 8] 3) = V6 := ⟨_, rfl⟩; have B7 := Lib.hid (below_step B6.out (hV6 ▸ (Below.refl _ w6).alloc (Nat.le_refl _) _)); have HV6 := Lib.hid hV6; clear b6 hV6))
        | (go_at_call 20; go_loud ((try rw [HV6.out]); (with_reducible refine (HR3.out _ _ _ _ I6.out _ HV6.out).mono ?_); rintro e w8 ⟨rfl, b8⟩; have B8 := Lib.hid (below_step B7.out b8); clear b8)))
      go_ret
      exact ⟨rfl, B8.out⟩

end Go.Proofs.YtdoabcbembinjaaDoor
end

section
namespace Go.Proofs.YtdoabcbembinjaaDoor
open Go.RowKit
set_option linter.unusedVariables false

set_option maxRecDepth 100000 in
set_option maxHeartbeats 8000000 in
theorem walkChPuts (sb : ByteArray) (A : Option Addr) (n c : Nat) (l : List Int) (z : Int) (W : World) (ht : Tab W) (h : Ints6 W A n l) (hc : n ≤ c) (hcm : c ≤ maxLen) (hsz : sb.size ≤ 9223372036854775807) :
    Calls Tryd.prog 3 #[.string sb, .slice A n c, .int .i64 z] W fun e W' => e = .returned (.bool true) ∧ Below W.heap.size W W' := by
  have hcI : (n : Int) ≤ 9223372036854775807 := by unfold maxLen at hcm; omega
  have HAW := Lib.hid (awake09_any W ht)
  by_cases hs : 600 < sb.size
  · have hsI : (600 : Int) < (sb.size : Int) := by omega
    clear hc hcm h
    go_enter Tryd.func3, Tryd.ntmps3
    go_wp2_with (go_at_call 8; (with_reducible refine HAW.out.mono ?_); rintro e w1 ⟨rfl, b1⟩; have B1 := Lib.hid b1; clear b1)
    go_ret
    exact ⟨rfl, B1.out⟩
  · by_cases hn : 20 < n
    · have hsI : ¬ (600 : Int) < (sb.size : Int) := by omega
      have hnI : (20 : Int) < (n : Int) := by omega
      clear hc hcm h
      go_enter Tryd.func3, Tryd.ntmps3
      go_wp2_with (go_at_call 8; (with_reducible refine HAW.out.mono ?_); rintro e w1 ⟨rfl, b1⟩; have B1 := Lib.hid b1; clear b1)
      go_ret
      exact ⟨rfl, B1.out⟩
    · have hsI : ¬ (600 : Int) < (sb.size : Int) := by omega
      have hnI : ¬ (20 : Int) < (n : Int) := by omega
      obtain ⟨s, hse⟩ : ∃ s : List UInt8, (⟨s.toArray⟩ : ByteArray) = sb := ⟨sb.data.toList, by simp⟩
      have hsl : s.length ≤ 600 := by rw [← size_list, hse]; omega
      have HPU : Hid (∀ w1, Below W.heap.size W w1 → Calls Tryd.prog 9 #[.string sb, .slice A n c] w1 (PutEnd s l w1)) := Lib.hid (fun w1 b1 => by
        rw [← hse]
        exact hPut_any s A n c l w1 (ht.below b1) (by omega) (h.below9 b1) (by omega) hc hcm)
      have HRU : Hid (∀ w1, Below W.heap.size W w1 → Calls Tryd.prog 10 #[.string sb, .slice A n c] w1 (RPutEnd s l w1)) := Lib.hid (fun w1 b1 => by
        rw [← hse]
        exact r9Put_any s A n c l w1 (h.below9 b1) hc hcm)
      obtain ⟨⟨ps, er⟩, hp⟩ : ∃ p, putN s l = p := ⟨_, rfl⟩
      unfold PutEnd at HPU
      unfold RPutEnd at HRU
      rw [hp] at HPU HRU
      have hpl : ps.length ≤ 20 := by
        have h2 : ps = (putN s l).1 := by rw [hp]
        rw [h2]
        unfold putN
        split
        · simp [pagesN, ← h.len]
          omega
        · simp
      have HND := Lib.hid (fun w1 => hNeed_any z w1)
      have HNR := Lib.hid (fun w1 => r9Need_any z w1)
      obtain ⟨j0, hj, jz0, jz1, jz2⟩ := info_parts stinfo
      have HB0 := Lib.hid (Below.refl W.heap.size W)
      clear hse hsl h ht hs hn hp
      go_enter Tryd.func3, Tryd.ntmps3
      go_wp2_with (first
        | (go_at_call 8; (with_reducible refine HAW.out.mono ?_); rintro e w1 ⟨rfl, b1⟩; have B1 := Lib.hid b1; clear b1)
        | (go_at_call 9; go_loud ((with_reducible refine (HPU.out _ B1.out).mono ?_); rintro e w2 ⟨A2, n2, c2, q, rfl, hC, hq, _, b2, _⟩; have C2 := Lib.hid hC; have HQ := Lib.hid hq; have B2 := Lib.hid (below_step B1.out b2); have hqn : n2 = ps.length := (hC.len.trans (by rw [← lq_len, hq])); clear hC hq b2; subst hqn))
        | (go_at_call 10; go_loud ((with_reducible refine (HRU.out _ B2.out).mono ?_); rintro e w3 ⟨A3, n3, c3, rfl, hT, b3⟩; have T3 := Lib.hid hT; have C3 := Lib.hid (C2.out.below b3); have B3 := Lib.hid (below_step B2.out b3); clear hT b3)))
      go_loopw [12, 13] (fun v i wr => ∃ k : Nat, k ≤ ps.length ∧ i = .int .i64 (k : Int) ∧ wr.ownsRow w3.heap.size 9 1 v k ((ps.take k).map cstV) ∧ Below w3.heap.size w3 wr) (fun _ i _ => ps.length - (intOf i).toNat)
      case atStart => exact ⟨0, Nat.zero_le _, rfl, st_own_nil _ _, Below.refl _ _⟩
      case round =>
        obtain ⟨k, hk, rfl, ho, hb⟩ := hrel
        have HO := Lib.hid ho
        have HB := Lib.hid hb
        clear ho hb
        by_cases hlt : k < ps.length
        · have hCk := C3.out.below HB.out
          have hkq : k < q.length := by rw [← lq_len, HQ.out]; exact hlt
          obtain ⟨gq, oq, rfl, ck⟩ := hCk.at hkq
          have hy := hCk.hdr hkq
          have hyl : (q[k]).l = ps[k] := by
            have h1 := lq_at q hkq
            rw [HQ.out, List.getElem?_eq_getElem hlt] at h1
            injection h1 with h1
            exact h1.symm
          have HTK : Hid ((ps.take (k + 1)).map cstV = (ps.take k).map cstV ++ [cstV ps[k]]) := Lib.hid (by rw [List.take_succ_eq_append_getElem hlt, List.map_append]; rfl)
          have hcv := run_string_of (P := Tryd.prog) wr 31 9 5 Tryd.underlying31 Tryd.underlying5 Tryd.underlying9 (cap := (q[k]).c) hy.len hy.reads
          rw [hyl] at hcv
          generalize q[k] = y at ck hcv
          generalize hpk : ps[k] = pk at HTK hcv
          have HSV : Hid (cstV pk = .string ⟨pk.toArray⟩) := Lib.hid rfl
          generalize (⟨pk.toArray⟩ : ByteArray) = pb at hcv HSV
          have hkI : (k : Int) < (ps.length : Int) := by omega
          have hk0 : (0 : Int) ≤ (k : Int) := by omega
          clear hpk hy hyl hCk hkq
          go_wp2_with (at_builtin; go_loud (refine wpList_append_one rfl _ _ 28 9 rfl w3.heap.size 9 j0 _ 16 Tryd.underlying28 hj jz0 jz1 jz2 rfl _ k _ rfl HO.out (.string pb) rfl rfl ?_ ?_ ?_ ?_; (omega); (unfold maxLen; omega); (exact HB.out.size); intro v4 w4 h7 h8; have O4 := Lib.hid h7; have B4 := Lib.hid (HB.out.trans h8); clear h7 h8))
          go_roundw
          case rel =>
            refine ⟨k + 1, by omega, by go_num, ?_, B4.out⟩
            rw [HTK.out, HSV.out]
            exact O4.out
          case measure => simp [intOf]; omega
        · obtain rfl : k = ps.length := by omega
          have ho := HO.out
          rw [List.take_length] at ho
          obtain ⟨A5, c5, rfl, _, hT⟩ := TxtA.of_own ho
          have hn3 : n3 = ps.length := T3.out.len
          subst hn3
          have HS := Lib.hid (r7Same_any A5 A3 ps.length c5 ps.length c3 ps ps wr hT (T3.out.below HB.out) (by omega))
          have hsb : sameB ps ps = true := by unfold sameB; simp
          rw [hsb] at HS
          obtain ⟨w5, hw5⟩ : ∃ w5 : World, w5 = wr := ⟨_, rfl⟩
          subst hw5
          have B5 := Lib.hid (below_step B3.out HB.out)
          clear ho hT hsb
          go_wp2_with (first
            | (go_at_call 11; (with_reducible refine (HND.out _).mono ?_); rintro e w6 ⟨rfl, rfl⟩)
            | (go_at_call 12; (with_reducible refine (HNR.out _).mono ?_); rintro e w6 ⟨rfl, rfl⟩)
            | (go_at_call 13; go_loud ((with_reducible refine HS.out.mono ?_); rintro e w7 ⟨rfl, b7⟩; have B7 := Lib.hid (below_step B5.out b7); clear b7)))
          go_ret
          exact ⟨retb (by simp), B7.out⟩

end Go.Proofs.YtdoabcbembinjaaDoor
end

section
namespace Go.Proofs.YtdoabcbembinjaaDoor
open Go.ChangeShapes Go.WideShapes Go.ChangeAt Go.RowKit Go.Deep
set_option linter.unusedVariables false

theorem arg_ints9 {H : Type} {enc : TypeId × Value → H} {W : World} {A : Option Addr} {n c : Nat} {d : DataW H} {p : List MemPlace} (h : DataW.Trod enc Tryd.prog W 0 (fun _ => true) true 22 (.slice A n c) d p) :
    ∃ l : List Int, Ints6 W A n l ∧ n ≤ c ∧ c ≤ maxLen := by
  obtain ⟨fuel, hf⟩ := h
  rcases open_ints Tryd.underlying22 Tryd.underlying3 (by kernel_rfl) hf with ⟨hcs, _⟩ | ⟨x, l, c', zs, hcs, _, hl, hm, hz, hx, hcell, hwz⟩
  · simp [Value.cells] at hcs
    obtain ⟨rfl, rfl, rfl⟩ := hcs
    exact ⟨[], ⟨rfl, Reads.empty⟩, Nat.le_refl _, Nat.zero_le _⟩
  · simp [Value.cells] at hcs
    obtain ⟨rfl, rfl, rfl⟩ := hcs
    have hz' : zs.length = c := by simpa using hz
    refine ⟨zs.take n, ⟨by simp; omega, fun hn => ?_⟩, hl, hm⟩
    have hn0 : 0 < n := by simp at hn; omega
    obtain ⟨b, off, spot⟩ := x
    have h0 := hcell 0 (by omega)
    have hspot : spot = none := by simpa [Addr.add] using World.cell?_spot h0
    subst hspot
    refine ⟨b, off, rfl, fun i y hy => ?_⟩
    have hin : i < n := by
      have := (List.getElem?_eq_some_iff.1 hy).1
      simp at this
      omega
    have hiz : i < zs.length := by omega
    have h2 := hcell i hiz
    rw [add_plain] at h2
    rw [h2]
    simp [hin, List.getElem?_eq_getElem hiz] at hy ⊢
    exact hy
structure Wq where
  p : Int
  h : Hd
structure WrsA (w : World) (A : Option Addr) (n : Nat) (l : List Wq) : Prop where
  len : n = l.length
  reads : 0 < n → ∃ b off, A = some ⟨b, off, none⟩ ∧ b < w.heap.size ∧ ∀ i x, l[i]? = some x → w.cell? ⟨b, off + i * 2, none⟩ = some (.int .i64 x.p) ∧ w.cell? ⟨b, off + i * 2 + 1, none⟩ = some (.slice x.h.a x.h.n x.h.c)
  each : ∀ x ∈ l, Arg w x.h.a x.h.n x.h.c x.h.l
set_option maxRecDepth 100000 in
theorem arg_writes9 {H : Type} {enc : TypeId × Value → H} {W : World} {A : Option Addr} {n c : Nat} {d : DataW H} {p : List MemPlace} (h : DataW.Trod enc Tryd.prog W 0 (fun _ => true) true 35 (.slice A n c) d p) :
    ∃ l : List Wq, WrsA W A n l ∧ n ≤ 9223372036854775807 := by
  obtain ⟨fuel, hf⟩ := h
  rcases open_slice Tryd.underlying35 hf with ⟨hcs, _⟩ | ⟨x, l, c', m, fu, D, Pl, hcs, _, hl, hm, hmm, _, hx⟩
  · simp [Value.cells] at hcs
    obtain ⟨rfl, rfl, rfl⟩ := hcs
    exact ⟨[], ⟨rfl, fun h => absurd h (Nat.lt_irrefl 0), fun x hx => by cases hx⟩, by omega⟩
  · simp [Value.cells] at hcs
    obtain ⟨rfl, rfl, rfl⟩ := hcs
    have hmn : n ≤ m := by rw [hmm]; split <;> omega
    have hnm : n ≤ 9223372036854775807 := by
      have : c ≤ 9223372036854775807 := by simpa [maxLen] using hm
      omega
    have ce : Tryd.prog.cellsOf 44 = 2 := by kernel_rfl
    have c1 : Tryd.prog.cellsOf 3 = 1 := by kernel_rfl
    have c2 : Tryd.prog.cellsOf 31 = 1 := by kernel_rfl
    have each : ∀ i, i < n → ∃ q : Wq, (W.cell? (x.add (i * 2)) = some (.int .i64 q.p) ∧ W.cell? (x.add (i * 2 + 1)) = some (.slice q.h.a q.h.n q.h.c)) ∧ Arg W q.h.a q.h.n q.h.c q.h.l := fun i hin => by
      obtain ⟨cs', h1, h2⟩ := hx i (by omega)
      rw [ce] at h1
      obtain ⟨_, hlen, hcell⟩ := World.cells?_some h1
      obtain ⟨xs, k, hk, hxy, _, hxl, hg⟩ := DataW.trod_struct Tryd.underlying44 h2
      match xs, hxl, cs', hlen with
      | [y0, y1], _, [v0, v1], _ =>
        have g0 := hg 0 _ rfl
        have g1 := hg 1 _ rfl
        simp [c1, c2] at g0 g1
        obtain ⟨k0, hk0, _, _⟩ := DataW.trod_int Tryd.underlying3 g0
        obtain ⟨kA, kn, kc, ks, hk1, t1⟩ := arg_bytes_v g1
        simp at hk0
        subst hk0 hk1
        have e0 := hcell 0 (by omega)
        have e1 := hcell 1 (by omega)
        rw [add_add] at e0 e1
        exact ⟨⟨k0, ⟨kA, kn, kc, ks⟩⟩, ⟨by simpa using e0, by simpa using e1⟩, t1⟩
    obtain ⟨q, hq⟩ := @choose_lt _ ⟨⟨0, ⟨none, 0, 0, []⟩⟩⟩ _ _ each
    refine ⟨(List.range n).map q, ⟨by simp, fun hn => ?_, fun y hy => ?_⟩, hnm⟩
    · obtain ⟨b, off, spot⟩ := x
      have h00 := (hq 0 hn).1.1
      have hspot : spot = none := by simpa [Addr.add] using World.cell?_spot h00
      subst hspot
      refine ⟨b, off, rfl, World.block_lt_of_cell? W _ (by simpa [Addr.add] using h00), fun i y hy => ?_⟩
      have hin : i < n := by
        have := (List.getElem?_eq_some_iff.1 hy).1
        simpa using this
      simp [hin] at hy
      subst hy
      obtain ⟨z0, z1⟩ := (hq i hin).1
      rw [add_plain] at z0 z1
      rw [← Nat.add_assoc] at z1
      exact ⟨z0, z1⟩
    · obtain ⟨i, hi, rfl⟩ := List.mem_map.1 hy
      exact (hq i (List.mem_range.1 hi)).2

end Go.Proofs.YtdoabcbembinjaaDoor
end
