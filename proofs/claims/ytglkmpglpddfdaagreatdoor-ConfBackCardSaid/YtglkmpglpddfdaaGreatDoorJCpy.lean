import Derived.Test.YtglkmpglpddfdaaGreatDoorJ41
import Derived.Test.YtglkmpglpddfdaaGreatDoorJ31
import Derived.Test.YtglkmpglpddfdaaGreatDoorJSho
import Derived.OwnWalk
import Derived.Deep.RegionWith
import Derived.Lib.AppendIntMem
/- Of a claim's texts, joined: Cpy. No statement but in the last. -/
namespace Go.Proofs.YtglkmpglpddfdaaGreatDoor
open Go.RowKit Go.Sort
set_option linter.unusedVariables false

theorem wp_heldHQ5 {P : Program} {id : Nat} {ops : Array Oper} {Q : Exit → Act → World → Prop} {a : Act} {w : World} (S : World → Prop) (hm : P.follows .mixedOrders = true)
    (h : wpAnyH P .any ops (Runs (Q .normal)) S ops.size (Array.replicate ops.size false) a w.drew) : (Code.region id ops true).wp P Q a w :=
  wp_mono (Q := Runs (Q .normal)) (wp_region_held hm h) (fun e a w h => by cases e <;> first | exact h | exact False.elim h)
theorem dec_dig : ∀ n, 0 < n → Lib.decDigits n = digN n := by
  intro n
  induction n using Nat.strongRecOn with
  | ind n ih =>
    intro h
    rw [digN_pos h, Lib.decDigits]
    by_cases h10 : n < 10
    · rw [dif_pos h10, show n / 10 = 0 by omega, digN_zero, show n % 10 = n by omega]
      rfl
    · rw [dif_neg h10, ih (n / 10) (by omega) (by omega)]
theorem itoa_any (q : Nat) (h1 : 0 < q) (h2 : q ≤ 1000) (w : World) (ht : Base5 w) : Calls Tryz.prog 41 #[.int .i64 (q : Int)] w fun e w' => e = .returned (.string ⟨(digN q).toArray⟩) ∧ Below w.heap.size w w' := by
  refine (Tryz.strconv_Itoa (q : Int) (by omega) (by omega) w ht.pow).mono ?_
  rintro e w' ⟨rfl, k, os, rfl⟩
  have hb : Below w.heap.size (w.drewN k) (grow (w.drewN k) os) := Lib.below_grow _ (w.drewN k) (Nat.le_refl _) 0 os
  refine ⟨?_, ⟨hb.os, hb.tape, hb.output, hb.size, hb.block⟩⟩
  unfold Lib.itoa
  rw [if_neg (by omega), Int.toNat_natCast, dec_dig q h1]
theorem string_any (B b : Nat) (l : List UInt8) (w : World) (h : Bd B b l w) (hBw : B ≤ w.heap.size) : Calls Tryz.prog 43 #[.pointer (some ⟨b, 0, none⟩)] w fun e w' => e = .returned (.string ⟨l.toArray⟩) ∧ Below B w w' := by
  refine (Tryz.Builder_String_any_k B b l w h hBw).mono ?_
  rintro e w' ⟨rfl, _, hb, _⟩
  exact ⟨rfl, hb⟩
theorem bd_new (w : World) (n : Nat) (hn : w.heap.size = n) : Bd n n [] (w.alloc (.cells #[.pointer none, .slice none 0 0] 67)) := by
  subst hn
  exact .inl ⟨Nat.le_refl _, .slice none 0 0, heap_alloc_new w _, World.ownsRowF_of ⟨rfl, .inl ⟨rfl, rfl⟩⟩, by simp [Value.ownBlock]⟩
structure ShSt (b : Nat) (W : World) (l : List UInt8) (wr : World) : Prop where
  bd : Bd b b l wr
  bel : Below b W wr
theorem ShSt.below {b : Nat} {W wr wr' : World} {l : List UInt8} (h : ShSt b W l wr) (hb : Below wr.heap.size wr wr') (hs : b ≤ W.heap.size) : ShSt b W l wr' := ⟨h.bd.below hb, h.bel.trans (hb.mono (Nat.le_trans hs h.bel.size))⟩
theorem show_words (b : Nat) (W wr : World) (l l' : List UInt8) (xs : List (List UInt8)) (cs : Array Value) (n : Nat) (h : ShSt b W l wr) (hs : b ≤ W.heap.size) (hn : n = xs.length) (hcs : cs = (xs.map strV).toArray) (hN : n ≤ 1000) (h0 : 0 < n)
    (hl : l ++ joinL xs ++ [10] = l') (hlen : l'.length ≤ 1000000) :
    Calls Tryz.prog 40 #[.pointer (some ⟨b, 0, none⟩), .slice (some ⟨wr.heap.size, 0, none⟩) n n] (wr.alloc (.cells cs 9)) fun e w' => e = .returned (.tuple #[]) ∧ ShSt b W l' w' ∧ ∀ g t cs, Has wr g t cs → g ≠ b → t ≠ 5 → Has w' g t cs := by
  subst hl hcs
  have hb := h.bel.size
  have hc : Has (wr.alloc (.cells (xs.map strV).toArray 9)) wr.heap.size 9 (xs.map strV).toArray := Has.made _ _ _
  have k := coshow_any b b wr.heap.size 0 n n l xs (wr.alloc (.cells (xs.map strV).toArray 9)) (h.bd.below ((Below.refl _ wr).alloc (Nat.le_refl _) _)) (by simp; omega) hn (fun j x hx => by
    rw [hc.cell, Nat.zero_add]
    simp [hx, strV]) (by simp) hN (Nat.le_refl _) (by simp only [List.length_append, List.length_cons, List.length_nil] at hlen; omega)
  refine k.mono ?_
  rintro e w' ⟨he, h1, h2, h3⟩
  refine ⟨he, ⟨h1, (h.bel.alloc (Nat.le_trans hs hb) _).trans h2⟩, fun g t cs hg hgb ht => ?_⟩
  exact h3 g _ (hg.alloc _) (fun e => by injection e with e; exact hgb e) (fun c fz e => by injection e with _ e _; exact ht e)
theorem join3 (a b c : List UInt8) : joinL [a, b, c] = a ++ [32] ++ b ++ [32] ++ c := by simp [joinL, Lib.join, List.intercalate]
theorem join4 (a b c d : List UInt8) : joinL [a, b, c, d] = a ++ [32] ++ b ++ [32] ++ c ++ [32] ++ d := by simp [joinL, Lib.join, List.intercalate]
theorem lab_more (c : Cf) (l : List UInt8) (k : Nat) : l ++ joinL [labelT, nmAt c k, digN (c.quotas.getD k 0).toNat] ++ [10] = l ++ labN c k := by rw [join3]; simp [labN, labelT]
theorem und_more (c : Cf) (l : List UInt8) (a b : Nat) : l ++ joinL [underT, nmAt c a, nmAt c b] ++ [10] = l ++ undN c a b := by rw [join3]; simp [undN, underT]
theorem gra_more (c : Cf) (l : List UInt8) (a f t : Nat) : l ++ joinL [grantT, nmAt c a, nmAt c f, nmAt c t] ++ [10] = l ++ graN c ⟨a, f, t⟩ := by rw [join4]; simp [graN, grantT]
theorem ubit_leq {up : List Nat} (h : IsLat up) {a b : Nat} (ha : a < up.length) (hb : b < up.length) : leqZ up (a : Int) (b : Int) = ubit up a b := by
  rw [leqZ_nat, Bool.eq_iff_iff, lq_iff]
  exact ⟨fun k => k.2.2.2, fun k => ⟨h.1.2, ha, hb, k⟩⟩
theorem name_at {w : World} {A : Option Addr} {n cc : Nat} {c : Cf} (h : ArgT w A n cc c.names) {k : Nat} (hk : k < c.names.length) : ∃ g off, A = some ⟨g, off, none⟩ ∧ w.cell? ⟨g, off + k, none⟩ = some (.string ⟨(nmAt c k).toArray⟩) := by
  obtain ⟨g, off, hA, hc⟩ := h.reads.sat_ hk
  exact ⟨g, off, hA, by rw [hc]; unfold nmAt; rw [getT_at _ _ hk]⟩

set_option maxRecDepth 100000 in
set_option maxHeartbeats 8000000 in
theorem coShow_yes (cf : Cf) (s : Cs) (w : World) (ht : Base5 w) (h : ArgC w s cf) (hck : checkC cf = true) : Calls Tryz.prog 14 #[s.v] w (TextEnd (showN cf) w) := by
  have hk := (okc_iff cf).1 hck
  have hn64 := hk.n64
  have hnl := h.names.len
  have hql := h.quotas.len
  have hul := h.up.len
  have hgl := h.grants.len
  have hups := hk.ups
  have hquo := hk.quo
  have hg64 := checkG64 hk.gra
  have HC := Lib.hid (fun w1 (hb : Below w.heap.size w w1) => by
    have := coCheck_any cf s w1 (ht.below hb) (h.below hb) (by omega) (by omega)
    rw [hck] at this
    exact this)
  have HSH : Hid (showN cf = labsN cf cf.names.length ++ undsN cf cf.names.length ++ grasN cf cf.grants.length) := Lib.hid (by unfold showN; rw [if_pos hck])
  have HA := Lib.hid h
  have HT := Lib.hid ht
  have HK := Lib.hid hk
  have HNL := Lib.hid hnl
  have HQL := Lib.hid (show cf.names.length = cf.quotas.length from hquo)
  have HUL := Lib.hid (show cf.names.length = cf.up.length from hups)
  have HGL := Lib.hid hgl
  have hnn : s.nn ≤ 64 := by omega
  have hqn : s.qn = s.nn := by omega
  have hgn : s.gn ≤ 64 := by omega
  have HLA := Lib.hid (fun k (hk2 : k ≤ cf.names.length) => labs_len hk k hk2)
  have HUR := Lib.hid (fun a k => undR_len hk a k)
  have HUS := Lib.hid (fun k => unds_len hk k)
  have HGS := Lib.hid (fun k (hk2 : k ≤ cf.grants.length) => gras_len hk k hk2)
  have HMX := Lib.hid (show Tryz.prog.follows .mixedOrders = true by kernel_rfl)
  clear h ht hk hck hnl hql hul hgl hups hquo
  unfold Cs.v at HC ⊢
  obtain ⟨nA, nn, nc, uA, un, uc, qA, qn, qc, gA, gn, gc⟩ := s
  simp only at HA HNL HGL HC hnn hqn hgn ⊢
  obtain rfl : nn = qn := hqn.symm
  have hBx : Has (w.alloc (.cells #[.slice nA nn nc, .slice uA un uc, .slice qA nn qc, .slice gA gn gc] 28)) w.heap.size 28 #[.slice nA nn nc, .slice uA un uc, .slice qA nn qc, .slice gA gn gc] := Has.made _ _ _
  have hB0 : Below w.heap.size w (w.alloc (.cells #[.slice nA nn nc, .slice uA un uc, .slice qA nn qc, .slice gA gn gc] 28)) := (Below.refl _ w).alloc (Nat.le_refl _) _
  obtain ⟨W0, hW0⟩ : ∃ W, w.alloc (.cells #[.slice nA nn nc, .slice uA un uc, .slice qA nn qc, .slice gA gn gc] 28) = W := ⟨_, rfl⟩
  rw [hW0] at hBx hB0
  have HBx := Lib.hid hBx
  have HB0 := Lib.hid hB0
  have HWS : Hid (w.heap.size < W0.heap.size) := Lib.hid hBx.lt
  have b0 : W0.cell? ⟨w.heap.size, 0, none⟩ = some (.slice nA nn nc) := by rw [hBx.cell]; simp
  have b1 : W0.cell? ⟨w.heap.size, 1, none⟩ = some (.slice uA un uc) := by rw [hBx.cell]; simp
  have b2 : W0.cell? ⟨w.heap.size, 2, none⟩ = some (.slice qA nn qc) := by rw [hBx.cell]; simp
  have b3 : W0.cell? ⟨w.heap.size, 3, none⟩ = some (.slice gA gn gc) := by rw [hBx.cell]; simp
  clear hBx hB0
  have BDZ : Hid ((zeroValue 67).run Tryz.prog = (zeroValue 67).run Tryz.prog) := Lib.hid rfl
  go_enter Tryz.func14, Tryz.ntmps14
  go_wp2_with (first
    | (rw [hW0])
    | (go_at_call 12; (with_reducible refine (HC.out _ HB0.out).mono ?_); rintro e w1 ⟨rfl, h1⟩; have B1 := Lib.hid h1; clear b0 b1 b2 b3
       have BX1 := Lib.hid (HBx.out.below h1 HBx.out.lt)
       have hw1 := Nat.lt_of_lt_of_le HWS.out h1.size
       obtain ⟨W, hW⟩ : ∃ W, w1.alloc (.cells #[.pointer none, .slice none 0 0] 67) = W := ⟨_, rfl⟩
       have BW := Lib.hid (hW ▸ (Below.refl _ w1).alloc (Nat.le_refl _) _ : Below w1.heap.size w1 W)
       have HWZ := Lib.hid (show w1.heap.size ≤ W.heap.size from BW.out.size)
       have HWL : Hid (w1.heap.size < W.heap.size) := Lib.hid (by rw [← hW]; simp)
       have HS0 := Lib.hid (show ShSt w1.heap.size W [] W from ⟨hW ▸ bd_new w1 _ rfl, Below.refl _ _⟩)
       have HFB := Lib.hid (fun wr (hb : Below w1.heap.size W wr) => show (wr.cell? ⟨w.heap.size, 0, none⟩ = some (.slice nA nn nc) ∧ wr.cell? ⟨w.heap.size, 1, none⟩ = some (.slice uA un uc)) ∧ wr.cell? ⟨w.heap.size, 2, none⟩ = some (.slice qA nn qc) ∧ wr.cell? ⟨w.heap.size, 3, none⟩ = some (.slice gA gn gc) by
         have k := (BX1.out.below BW.out BX1.out.lt).below hb (by omega)
         rw [k.cell, k.cell, k.cell, k.cell]
         simp)
       have HFW := Lib.hid (fun wr (hb : Below w1.heap.size W wr) => ((HB0.out.trans (h1.mono HB0.out.size)).trans (BW.out.mono (by omega))).trans (hb.mono (by omega)))
       obtain ⟨⟨b0, b1⟩, b2, b3⟩ := HFB.out W (Below.refl _ _)
       clear h1)
    | (rw [hW]))
  obtain ⟨b, hb⟩ : ∃ b, w1.heap.size = b := ⟨_, rfl⟩
  have hwb : w.heap.size < b := by rw [← hb]; exact hw1
  rw [hb] at HWZ HWL HS0 HFB HFW ⊢
  clear hw1 BX1 hW BW hb B1
  have HLE : Hid (∀ k, k ≤ nn → k ≤ cf.names.length) := Lib.hid (fun k h => by rw [← HNL.out]; exact h)
  go_loopw [18] (fun i wr => ∃ k : Nat, k ≤ nn ∧ i = .int .i64 k ∧ ShSt b W (labsN cf k) wr) (fun i _ => nn - (intOf i).toNat)
  case atStart => exact ⟨0, Nat.zero_le _, rfl, HS0.out⟩
  case round =>
    obtain ⟨k, hk, rfl, hST⟩ := hrel
    have ST := Lib.hid hST
    clear hST
    by_cases hlt : k < nn
    · have hkl : k < cf.names.length := by rw [← HNL.out]; exact hlt
      have A1 := HA.out.below (HFW.out wr ST.out.bel)
      obtain ⟨g, off, rfl, cn⟩ := name_at A1.names hkl
      have hkq : k < cf.quotas.length := by rw [← HQL.out]; exact hkl
      obtain ⟨g2, o2, rfl, cq⟩ := A1.quotas.reads.zint hkq
      obtain ⟨⟨d0, d1⟩, d2, d3⟩ := HFB.out wr ST.out.bel
      have hq := HK.out.quota k hkl
      have hqe : cf.quotas[k] = cf.quotas.getD k 0 := by simp [List.getD, List.getElem?_eq_getElem hkq]
      have IT := Lib.hid (itoa_any (cf.quotas.getD k 0).toNat (by omega) (by omega) wr (HT.out.below (HFW.out wr ST.out.bel)))
      have SW := Lib.hid (fun w2 (h2 : Below wr.heap.size wr w2) => show_words b W w2 (labsN cf k) (labsN cf (k + 1)) [labelT, nmAt cf k, digN (cf.quotas.getD k 0).toNat] #[.string ⟨#[108, 97, 98, 101, 108]⟩, .string ⟨(nmAt cf k).toArray⟩, .string ⟨(digN (cf.quotas.getD k 0).toNat).toArray⟩] 3 (ST.out.below h2 HWZ.out) HWZ.out rfl rfl (by omega) (by omega) (by rw [lab_more, ← labsN_more]) (by have := HLA.out (k + 1) (by omega); omega))
      rw [hqe] at cq
      obtain ⟨q, hqq⟩ : ∃ q : Nat, cf.quotas.getD k 0 = (q : Int) := ⟨(cf.quotas.getD k 0).toNat, by omega⟩
      rw [hqq] at cq
      simp only [hqq, Int.toNat_natCast] at IT SW
      generalize nmAt cf k = nm at *
      generalize digN q = dg at *
      have i0 : (0 : Int) ≤ (k : Int) := by omega
      have i1 : (k : Int) < (nn : Int) := by omega
      clear A1 hkl hkq hq hqe hqq
      go_wp2_with (first
        | (go_at_call 41; (with_reducible refine IT.out.mono ?_); rintro e w2 ⟨rfl, h2⟩; have S2 := Lib.hid (SW.out w2 h2); clear h2)
        | (go_at_call 40; (with_reducible refine S2.out.mono ?_); rintro e w3 ⟨rfl, h3, _⟩; have S3 := Lib.hid h3; clear h3))
      go_roundw
      case rel => exact ⟨k + 1, by omega, by go_num, S3.out⟩
      case measure => simp [intOf]; omega
    · obtain rfl : k = nn := by omega
      obtain ⟨⟨d0, d1⟩, d2, d3⟩ := HFB.out wr ST.out.bel
      obtain ⟨L0, hL0⟩ : ∃ L0, labsN cf k = L0 := ⟨_, rfl⟩
      have hL0l : L0.length ≤ 3840 := by rw [← hL0]; have := HLA.out k (HLE.out k (Nat.le_refl _)); omega
      have HL0 := Lib.hid hL0
      rw [hL0] at ST
      clear hL0 hk
      obtain ⟨wa, hwa⟩ : ∃ wa : World, wa = wr := ⟨_, rfl⟩
      subst hwa
      go_wp2
      go_loopw [36] (fun i wr => ∃ a : Nat, a ≤ k ∧ i = .int .i64 a ∧ ShSt b W (L0 ++ undsN cf a) wr) (fun i _ => k - (intOf i).toNat)
      case atStart => exact ⟨0, Nat.zero_le _, rfl, by simpa [undsN] using ST.out⟩
      case round =>
        obtain ⟨a, ha, rfl, hST⟩ := hrel
        have ST2 := Lib.hid hST
        clear hST
        by_cases hal : a < k
        · have hac : a < cf.names.length := by rw [← HNL.out]; exact hal
          have A1 := HA.out.below (HFW.out wr ST2.out.bel)
          obtain ⟨g, off, rfl, ca⟩ := name_at A1.names hac
          obtain ⟨⟨f0, f1⟩, f2, f3⟩ := HFB.out wr ST2.out.bel
          obtain ⟨LA, hLA⟩ : ∃ LA, L0 ++ undsN cf a = LA := ⟨_, rfl⟩
          have hLAl : LA.length ≤ 430000 := by rw [← hLA, List.length_append]; have := HUS.out a; omega
          have HLA2 := Lib.hid hLA
          rw [hLA] at ST2
          have i0 : (0 : Int) ≤ (a : Int) := by omega
          have i1 : (a : Int) < (k : Int) := by omega
          clear A1 hLA
          obtain ⟨wb, hwb2⟩ : ∃ wb : World, wb = wr := ⟨_, rfl⟩
          subst hwb2
          go_wp2
          go_loopw [44] (fun i wr => ∃ j : Nat, j ≤ k ∧ i = .int .i64 j ∧ ShSt b W (LA ++ undR cf a j) wr) (fun i _ => k - (intOf i).toNat)
          case atStart => exact ⟨0, Nat.zero_le _, rfl, by simpa [undR] using ST2.out⟩
          case round =>
            obtain ⟨j, hj, rfl, hST⟩ := hrel
            have ST3 := Lib.hid hST
            clear hST
            by_cases hjl : j < k
            · have hjc : j < cf.names.length := by rw [← HNL.out]; exact hjl
              have A2 := HA.out.below (HFW.out wr ST3.out.bel)
              obtain ⟨g', off', e1, cj⟩ := name_at A2.names hjc
              injection e1 with e1
              injection e1 with e1 e2 _
              subst e1 e2
              obtain ⟨⟨h0, h1⟩, h2, h3⟩ := HFB.out wr ST3.out.bel
              have j0 : (0 : Int) ≤ (j : Int) := by omega
              have j1 : (j : Int) < (k : Int) := by omega
              have LQ := Lib.hid (leq_any cf.up uA un uc (a : Int) (j : Int) wr A2.up)
              rw [ubit_leq HK.out.lat (by rw [← HUL.out]; exact hac) (by rw [← HUL.out]; exact hjc)] at LQ
              have NX := Lib.hid (undR_more cf a j)
              have hub := HUR.out a (j + 1)
              have hub2 : (undR cf a j).length ≤ 6656 := by have := HUR.out a j; omega
              clear A2
              by_cases haj : a = j
              · have e1 : ((a : Int) != (j : Int)) = false := by simp [haj]
                have NO : Hid (undO cf a j = []) := Lib.hid (if_neg (fun h => h.1 haj))
                obtain rfl : a = j := haj
                go_wp2
                go_roundw
                case rel => exact ⟨a + 1, by omega, by go_num, by rw [NX.out, NO.out, List.append_nil]; exact ST3.out⟩
                case measure => simp [intOf]; omega
              · have e1 : ((a : Int) != (j : Int)) = true := by simp; omega
                cases hu : ubit cf.up a j
                · have NO : Hid (undO cf a j = []) := Lib.hid (if_neg (fun h => by have := h.2; rw [hu] at this; cases this))
                  rw [hu] at LQ
                  clear hu haj
                  go_wp2_with (go_at_call 42; (with_reducible refine LQ.out.mono ?_); rintro e w4 ⟨rfl, h4⟩; have S4 := Lib.hid (ST3.out.below h4 HWZ.out); clear h4)
                  go_roundw
                  case rel => exact ⟨j + 1, by omega, by go_num, by rw [NX.out, NO.out, List.append_nil]; exact S4.out⟩
                  case measure => simp [intOf]; omega
                · have YO : undO cf a j = undN cf a j := if_pos ⟨haj, hu⟩
                  rw [hu] at LQ
                  have SW := Lib.hid (fun w2 (h2 : Below wr.heap.size wr w2) => show_words b W w2 (LA ++ undR cf a j) (LA ++ undR cf a (j + 1)) [underT, nmAt cf a, nmAt cf j] #[.string ⟨#[117, 110, 100, 101, 114]⟩, .string ⟨(nmAt cf a).toArray⟩, .string ⟨(nmAt cf j).toArray⟩] 3 (ST3.out.below h2 HWZ.out) HWZ.out rfl rfl (by omega) (by omega) (by rw [und_more, undR_more, YO, List.append_assoc]) (by rw [List.length_append]; omega))
                  clear hu haj YO
                  generalize nmAt cf a = na at *
                  generalize nmAt cf j = nj at *
                  go_wp2_with (first
                    | (go_at_call 42; (with_reducible refine LQ.out.mono ?_); rintro e w4 ⟨rfl, h4⟩; have S4 := Lib.hid (SW.out w4 h4); clear h4)
                    | (go_at_call 40; (with_reducible refine S4.out.mono ?_); rintro e w5 ⟨rfl, h5, _⟩; have S5 := Lib.hid h5; clear h5))
                  go_roundw
                  case rel => exact ⟨j + 1, by omega, by go_num, S5.out⟩
                  case measure => simp [intOf]; omega
            · obtain rfl : j = k := by omega
              have NX : Hid (L0 ++ undsN cf (a + 1) = LA ++ undR cf a j) := Lib.hid (by rw [undsN_more, ← List.append_assoc, HLA2.out, ← HNL.out])
              obtain ⟨wc, hwc⟩ : ∃ wc : World, wc = wr := ⟨_, rfl⟩
              subst hwc
              go_wp2
              go_roundw
              case rel => exact ⟨a + 1, by omega, by go_num, by rw [NX.out]; exact ST3.out⟩
              case measure => simp [intOf]; omega
        · obtain rfl : a = k := by omega
          obtain ⟨⟨d0', d1'⟩, d2', d3'⟩ := HFB.out wr ST2.out.bel
          obtain ⟨L1, hL1⟩ : ∃ L1, L0 ++ undsN cf a = L1 := ⟨_, rfl⟩
          have hL1l : L1.length ≤ 430000 := by rw [← hL1, List.length_append]; have := HUS.out a; have := HLE.out a (Nat.le_refl _); omega
          have HL1 := Lib.hid hL1
          rw [hL1] at ST2
          clear hL1 ha
          obtain ⟨wb, hwb2⟩ : ∃ wb : World, wb = wr := ⟨_, rfl⟩
          subst hwb2
          clear d0 d1 d2 d3
          go_wp2
          go_loopw [68] (fun i wr => ∃ m : Nat, m ≤ gn ∧ i = .int .i64 m ∧ ShSt b W (L1 ++ grasN cf m) wr) (fun i _ => gn - (intOf i).toNat)
          case atStart => exact ⟨0, Nat.zero_le _, rfl, by simpa [grasN] using ST2.out⟩
          case round =>
            obtain ⟨m, hm, rfl, hST⟩ := hrel
            have ST3 := Lib.hid hST
            clear hST
            by_cases hml : m < gn
            · have hmc : m < cf.grants.length := by rw [← HGL.out]; exact hml
              have A2 := HA.out.below (HFW.out wr ST3.out.bel)
              obtain ⟨gb, go, rfl, g1, g2, g3⟩ := A2.grants.reads.gat hmc
              obtain ⟨x, y, z, he, hx, hy, hz⟩ := fits_nat (HK.out.fits _ (List.getElem_mem hmc))
              rw [he] at g1 g2 g3
              rw [← HUL.out] at hx hy hz
              have NX := Lib.hid (grasN_more cf m hmc)
              rw [he] at NX
              have hgl := HGS.out (m + 1) (by omega)
              simp only at g1 g2 g3
              obtain ⟨W2, hW2⟩ : ∃ W2, wr.alloc (.cells #[.int .i64 (x : Int), .int .i64 (y : Int), .int .i64 (z : Int)] 45) = W2 := ⟨_, rfl⟩
              have hB2 : Below wr.heap.size wr W2 := hW2 ▸ (Below.refl _ wr).alloc (Nat.le_refl _) _
              have hG2 : Has W2 wr.heap.size 45 #[.int .i64 (x : Int), .int .i64 (y : Int), .int .i64 (z : Int)] := hW2 ▸ Has.made wr 45 #[.int .i64 (x : Int), .int .i64 (y : Int), .int .i64 (z : Int)]
              have ST4 := Lib.hid (ST3.out.below hB2 HWZ.out)
              obtain ⟨nb, no, hnA, n1⟩ := name_at (HA.out.below (HFW.out W2 ST4.out.bel)).names hx
              obtain ⟨nb', no', hnA', n2⟩ := name_at (HA.out.below (HFW.out W2 ST4.out.bel)).names hy
              obtain ⟨nb'', no'', hnA'', n3⟩ := name_at (HA.out.below (HFW.out W2 ST4.out.bel)).names hz
              rw [hnA] at hnA' hnA''
              injection hnA' with hnA'
              injection hnA' with e1 e2 _
              subst e1 e2
              injection hnA'' with hnA''
              injection hnA'' with e1 e2 _
              subst e1 e2
              subst hnA
              obtain ⟨⟨q0, q1⟩, q2, q3⟩ := HFB.out W2 ST4.out.bel
              have HNM := Lib.hid (fun w' (hb : Below b W w') => show w'.cell? ⟨nb, no + x, none⟩ = some (.string ⟨(nmAt cf x).toArray⟩) ∧ w'.cell? ⟨nb, no + y, none⟩ = some (.string ⟨(nmAt cf y).toArray⟩) ∧ w'.cell? ⟨nb, no + z, none⟩ = some (.string ⟨(nmAt cf z).toArray⟩) by
                have key : ∀ i, i < cf.names.length → w'.cell? ⟨nb, no + i, none⟩ = some (.string ⟨(nmAt cf i).toArray⟩) := fun i hi => by
                  obtain ⟨nb1, no1, e0, n0⟩ := name_at (HA.out.below (HFW.out w' hb)).names hi
                  injection e0 with e0
                  injection e0 with e1 e2 _
                  subst e1 e2
                  exact n0
                exact ⟨key x hx, key y hy, key z hz⟩)
              have HG2 := Lib.hid hG2.drew
              have HGB : Hid (wr.heap.size ≠ b) := Lib.hid (by have := ST3.out.bel.size; have := HWL.out; omega)
              have hgs : W2.cell? ⟨wr.heap.size, 0, none⟩ = some (.int .i64 (x : Int)) ∧ W2.cell? ⟨wr.heap.size, 1, none⟩ = some (.int .i64 (y : Int)) ∧ W2.cell? ⟨wr.heap.size, 2, none⟩ = some (.int .i64 (z : Int)) := by rw [hG2.cell, hG2.cell, hG2.cell]; simp
              have hS0 : (fun w' : World => w'.cell? ⟨w.heap.size, 0, none⟩ = some (.slice (some ⟨nb, no, none⟩) a nc) ∧ (w'.cell? ⟨wr.heap.size, 0, none⟩ = some (.int .i64 (x : Int)) ∧ w'.cell? ⟨wr.heap.size, 1, none⟩ = some (.int .i64 (y : Int)) ∧ w'.cell? ⟨wr.heap.size, 2, none⟩ = some (.int .i64 (z : Int))) ∧ w'.cell? ⟨nb, no + x, none⟩ = some (.string ⟨(nmAt cf x).toArray⟩) ∧ w'.cell? ⟨nb, no + y, none⟩ = some (.string ⟨(nmAt cf y).toArray⟩) ∧ w'.cell? ⟨nb, no + z, none⟩ = some (.string ⟨(nmAt cf z).toArray⟩)) W2 := ⟨q0, hgs, n1, n2, n3⟩
              obtain ⟨⟨o0, o1⟩, o2, o3⟩ := HFB.out wr ST3.out.bel
              have SW := Lib.hid (fun w2 (h2 : Below W2.heap.size W2 w2) => show_words b W w2 (L1 ++ grasN cf m) (L1 ++ grasN cf (m + 1)) [grantT, nmAt cf x, nmAt cf y, nmAt cf z] #[.string ⟨#[103, 114, 97, 110, 116]⟩, .string ⟨(nmAt cf x).toArray⟩, .string ⟨(nmAt cf y).toArray⟩, .string ⟨(nmAt cf z).toArray⟩] 4 (ST4.out.below h2 HWZ.out) HWZ.out rfl rfl (by omega) (by omega) (by rw [gra_more, NX.out, List.append_assoc]) (by rw [List.length_append]; omega))
              have xk : x < a := by rw [HNL.out]; exact hx
              have yk : y < a := by rw [HNL.out]; exact hy
              have zk : z < a := by rw [HNL.out]; exact hz
              generalize nmAt cf x = nx at *
              generalize nmAt cf y = ny at *
              generalize nmAt cf z = nz at *
              have i0 : (0 : Int) ≤ (m : Int) := by omega
              have i1 : (m : Int) < (gn : Int) := by omega
              have i3 : (x : Int) < (a : Int) := by omega
              have i4 : (y : Int) < (a : Int) := by omega
              have i5 : (z : Int) < (a : Int) := by omega
              have BD : Below W2.heap.size W2 W2.drew := (Below.refl _ _).drew
              have hS : (fun w' : World => w'.cell? ⟨w.heap.size, 0, none⟩ = some (.slice (some ⟨nb, no, none⟩) a nc) ∧ (w'.cell? ⟨wr.heap.size, 0, none⟩ = some (.int .i64 (x : Int)) ∧ w'.cell? ⟨wr.heap.size, 1, none⟩ = some (.int .i64 (y : Int)) ∧ w'.cell? ⟨wr.heap.size, 2, none⟩ = some (.int .i64 (z : Int))) ∧ w'.cell? ⟨nb, no + x, none⟩ = some (.string ⟨nx.toArray⟩) ∧ w'.cell? ⟨nb, no + y, none⟩ = some (.string ⟨ny.toArray⟩) ∧ w'.cell? ⟨nb, no + z, none⟩ = some (.string ⟨nz.toArray⟩)) W2.drew := hS0
              have hmx := HMX.out
              clear A2 he hmc hgs hS0 q1 q2 q3
              obtain ⟨gw, hgw⟩ : ∃ gw, wr.heap.size = gw := ⟨_, rfl⟩
              rw [hgw] at hS HG2 HGB
              clear hG2
              go_wp2
              try rw [hW2]
              try rw [hgw]
              rename_i K hK u1 u2
              refine wp_heldHQ5 (fun w' : World => w'.cell? ⟨w.heap.size, 0, none⟩ = some (.slice (some ⟨nb, no, none⟩) a nc) ∧ (w'.cell? ⟨gw, 0, none⟩ = some (.int .i64 (x : Int)) ∧ w'.cell? ⟨gw, 1, none⟩ = some (.int .i64 (y : Int)) ∧ w'.cell? ⟨gw, 2, none⟩ = some (.int .i64 (z : Int))) ∧ w'.cell? ⟨nb, no + x, none⟩ = some (.string ⟨nx.toArray⟩) ∧ w'.cell? ⟨nb, no + y, none⟩ = some (.string ⟨ny.toArray⟩) ∧ w'.cell? ⟨nb, no + z, none⟩ = some (.string ⟨nz.toArray⟩)) hmx ?_
              refine wpAnyH_take (i := 0) (v := .pointer (some ⟨w.heap.size, 0, none⟩)) rfl (by kernel_rfl) (by kernel_rfl) (by kernel_rfl) (fun _ _ _ h => h) (Or.inl ⟨by rfl, ?_⟩) hS ?_
              · rintro w6 ⟨s1, ⟨s2, s3, s4⟩, s5, s6, s7⟩
                go_simp
              simp only [Act.put, List.setIfInBounds_toArray, List.set_cons_zero, List.set_cons_succ, List.getElem_toArray, List.getElem_cons_zero]
              refine wpAnyH_take (i := 1) (v := .slice (some ⟨nb, no, none⟩) a nc) rfl (by kernel_rfl) (by kernel_rfl) (by kernel_rfl) (fun _ _ _ h => h) (Or.inl ⟨by rfl, ?_⟩) hS ?_
              · rintro w6 ⟨s1, ⟨s2, s3, s4⟩, s5, s6, s7⟩
                go_simp
              simp only [Act.put, List.setIfInBounds_toArray, List.set_cons_zero, List.set_cons_succ, List.getElem_toArray, List.getElem_cons_zero, List.getElem_cons_succ]
              refine wpAnyH_take (i := 2) (v := .pointer (some ⟨gw, 0, none⟩)) rfl (by kernel_rfl) (by kernel_rfl) (by kernel_rfl) (fun _ _ _ h => h) (Or.inl ⟨by rfl, ?_⟩) hS ?_
              · rintro w6 ⟨s1, ⟨s2, s3, s4⟩, s5, s6, s7⟩
                go_simp
              simp only [Act.put, List.setIfInBounds_toArray, List.set_cons_zero, List.set_cons_succ, List.getElem_toArray, List.getElem_cons_zero, List.getElem_cons_succ]
              refine wpAnyH_take (i := 3) (v := .int .i64 (x : Int)) rfl (by kernel_rfl) (by kernel_rfl) (by kernel_rfl) (fun _ _ _ h => h) (Or.inl ⟨by rfl, ?_⟩) hS ?_
              · rintro w6 ⟨s1, ⟨s2, s3, s4⟩, s5, s6, s7⟩
                go_simp
              simp only [Act.put, List.setIfInBounds_toArray, List.set_cons_zero, List.set_cons_succ, List.getElem_toArray, List.getElem_cons_zero, List.getElem_cons_succ]
              refine wpAnyH_take (i := 4) (v := .pointer (some ⟨nb, no + x, none⟩)) rfl (by kernel_rfl) (by kernel_rfl) (by kernel_rfl) (fun _ _ _ h => h) (Or.inl ⟨by rfl, ?_⟩) hS ?_
              · rintro w6 ⟨s1, ⟨s2, s3, s4⟩, s5, s6, s7⟩
                go_simp
              simp only [Act.put, List.setIfInBounds_toArray, List.set_cons_zero, List.set_cons_succ, List.getElem_toArray, List.getElem_cons_zero, List.getElem_cons_succ]
              refine wpAnyH_take (i := 5) (v := .string ⟨nx.toArray⟩) rfl (by kernel_rfl) (by kernel_rfl) (by kernel_rfl) (fun _ _ _ h => h) (Or.inl ⟨by rfl, ?_⟩) hS ?_
              · rintro w6 ⟨s1, ⟨s2, s3, s4⟩, s5, s6, s7⟩
                go_simp
              simp only [Act.put, List.setIfInBounds_toArray, List.set_cons_zero, List.set_cons_succ, List.getElem_toArray, List.getElem_cons_zero, List.getElem_cons_succ]
              refine wpAnyH_take (i := 6) (v := .pointer (some ⟨w.heap.size, 0, none⟩)) rfl (by kernel_rfl) (by kernel_rfl) (by kernel_rfl) (fun _ _ _ h => h) (Or.inl ⟨by rfl, ?_⟩) hS ?_
              · rintro w6 ⟨s1, ⟨s2, s3, s4⟩, s5, s6, s7⟩
                go_simp
              simp only [Act.put, List.setIfInBounds_toArray, List.set_cons_zero, List.set_cons_succ, List.getElem_toArray, List.getElem_cons_zero, List.getElem_cons_succ]
              refine wpAnyH_take (i := 7) (v := .slice (some ⟨nb, no, none⟩) a nc) rfl (by kernel_rfl) (by kernel_rfl) (by kernel_rfl) (fun _ _ _ h => h) (Or.inl ⟨by rfl, ?_⟩) hS ?_
              · rintro w6 ⟨s1, ⟨s2, s3, s4⟩, s5, s6, s7⟩
                go_simp
              simp only [Act.put, List.setIfInBounds_toArray, List.set_cons_zero, List.set_cons_succ, List.getElem_toArray, List.getElem_cons_zero, List.getElem_cons_succ]
              refine wpAnyH_take (i := 8) (v := .pointer (some ⟨gw, 1, none⟩)) rfl (by kernel_rfl) (by kernel_rfl) (by kernel_rfl) (fun _ _ _ h => h) (Or.inl ⟨by rfl, ?_⟩) hS ?_
              · rintro w6 ⟨s1, ⟨s2, s3, s4⟩, s5, s6, s7⟩
                go_simp
              simp only [Act.put, List.setIfInBounds_toArray, List.set_cons_zero, List.set_cons_succ, List.getElem_toArray, List.getElem_cons_zero, List.getElem_cons_succ]
              refine wpAnyH_take (i := 9) (v := .int .i64 (y : Int)) rfl (by kernel_rfl) (by kernel_rfl) (by kernel_rfl) (fun _ _ _ h => h) (Or.inl ⟨by rfl, ?_⟩) hS ?_
              · rintro w6 ⟨s1, ⟨s2, s3, s4⟩, s5, s6, s7⟩
                go_simp
              simp only [Act.put, List.setIfInBounds_toArray, List.set_cons_zero, List.set_cons_succ, List.getElem_toArray, List.getElem_cons_zero, List.getElem_cons_succ]
              refine wpAnyH_take (i := 10) (v := .pointer (some ⟨nb, no + y, none⟩)) rfl (by kernel_rfl) (by kernel_rfl) (by kernel_rfl) (fun _ _ _ h => h) (Or.inl ⟨by rfl, ?_⟩) hS ?_
              · rintro w6 ⟨s1, ⟨s2, s3, s4⟩, s5, s6, s7⟩
                go_simp
              simp only [Act.put, List.setIfInBounds_toArray, List.set_cons_zero, List.set_cons_succ, List.getElem_toArray, List.getElem_cons_zero, List.getElem_cons_succ]
              refine wpAnyH_take (i := 11) (v := .string ⟨ny.toArray⟩) rfl (by kernel_rfl) (by kernel_rfl) (by kernel_rfl) (fun _ _ _ h => h) (Or.inl ⟨by rfl, ?_⟩) hS ?_
              · rintro w6 ⟨s1, ⟨s2, s3, s4⟩, s5, s6, s7⟩
                go_simp
              simp only [Act.put, List.setIfInBounds_toArray, List.set_cons_zero, List.set_cons_succ, List.getElem_toArray, List.getElem_cons_zero, List.getElem_cons_succ]
              refine wpAnyH_take (i := 12) (v := .pointer (some ⟨w.heap.size, 0, none⟩)) rfl (by kernel_rfl) (by kernel_rfl) (by kernel_rfl) (fun _ _ _ h => h) (Or.inl ⟨by rfl, ?_⟩) hS ?_
              · rintro w6 ⟨s1, ⟨s2, s3, s4⟩, s5, s6, s7⟩
                go_simp
              simp only [Act.put, List.setIfInBounds_toArray, List.set_cons_zero, List.set_cons_succ, List.getElem_toArray, List.getElem_cons_zero, List.getElem_cons_succ]
              refine wpAnyH_take (i := 13) (v := .slice (some ⟨nb, no, none⟩) a nc) rfl (by kernel_rfl) (by kernel_rfl) (by kernel_rfl) (fun _ _ _ h => h) (Or.inl ⟨by rfl, ?_⟩) hS ?_
              · rintro w6 ⟨s1, ⟨s2, s3, s4⟩, s5, s6, s7⟩
                go_simp
              simp only [Act.put, List.setIfInBounds_toArray, List.set_cons_zero, List.set_cons_succ, List.getElem_toArray, List.getElem_cons_zero, List.getElem_cons_succ]
              refine wpAnyH_take (i := 14) (v := .pointer (some ⟨gw, 2, none⟩)) rfl (by kernel_rfl) (by kernel_rfl) (by kernel_rfl) (fun _ _ _ h => h) (Or.inl ⟨by rfl, ?_⟩) hS ?_
              · rintro w6 ⟨s1, ⟨s2, s3, s4⟩, s5, s6, s7⟩
                go_simp
              simp only [Act.put, List.setIfInBounds_toArray, List.set_cons_zero, List.set_cons_succ, List.getElem_toArray, List.getElem_cons_zero, List.getElem_cons_succ]
              refine wpAnyH_take (i := 15) (v := .int .i64 (z : Int)) rfl (by kernel_rfl) (by kernel_rfl) (by kernel_rfl) (fun _ _ _ h => h) (Or.inl ⟨by rfl, ?_⟩) hS ?_
              · rintro w6 ⟨s1, ⟨s2, s3, s4⟩, s5, s6, s7⟩
                go_simp
              simp only [Act.put, List.setIfInBounds_toArray, List.set_cons_zero, List.set_cons_succ, List.getElem_toArray, List.getElem_cons_zero, List.getElem_cons_succ]
              refine wpAnyH_take (i := 16) (v := .pointer (some ⟨nb, no + z, none⟩)) rfl (by kernel_rfl) (by kernel_rfl) (by kernel_rfl) (fun _ _ _ h => h) (Or.inl ⟨by rfl, ?_⟩) hS ?_
              · rintro w6 ⟨s1, ⟨s2, s3, s4⟩, s5, s6, s7⟩
                go_simp
              simp only [Act.put, List.setIfInBounds_toArray, List.set_cons_zero, List.set_cons_succ, List.getElem_toArray, List.getElem_cons_zero, List.getElem_cons_succ]
              refine wpAnyH_take (i := 17) (v := .string ⟨nz.toArray⟩) rfl (by kernel_rfl) (by kernel_rfl) (by kernel_rfl) (fun _ _ _ h => h) (Or.inl ⟨by rfl, ?_⟩) hS ?_
              · rintro w6 ⟨s1, ⟨s2, s3, s4⟩, s5, s6, s7⟩
                go_simp
              simp only [Act.put, List.setIfInBounds_toArray, List.set_cons_zero, List.set_cons_succ, List.getElem_toArray, List.getElem_cons_zero, List.getElem_cons_succ]
              refine wpAnyH_ready (rs := [18]) (by kernel_rfl) (by simp) ?_
              refine AllReadyH.cons rfl (fun K5 hK5 => ?_) AllReadyH.nil
              go_simp
              have hS5 : (fun w' : World => w'.cell? ⟨w.heap.size, 0, none⟩ = some (.slice (some ⟨nb, no, none⟩) a nc) ∧ (w'.cell? ⟨gw, 0, none⟩ = some (.int .i64 (x : Int)) ∧ w'.cell? ⟨gw, 1, none⟩ = some (.int .i64 (y : Int)) ∧ w'.cell? ⟨gw, 2, none⟩ = some (.int .i64 (z : Int))) ∧ w'.cell? ⟨nb, no + x, none⟩ = some (.string ⟨nx.toArray⟩) ∧ w'.cell? ⟨nb, no + y, none⟩ = some (.string ⟨ny.toArray⟩) ∧ w'.cell? ⟨nb, no + z, none⟩ = some (.string ⟨nz.toArray⟩)) (W2.drew.alloc (.cells #[.string ⟨#[103, 114, 97, 110, 116]⟩, .string ⟨nx.toArray⟩, .string ⟨ny.toArray⟩, .string ⟨nz.toArray⟩] 9)) := by
                obtain ⟨t1, ⟨t2, t3, t4⟩, t5, t6, t7⟩ := hS
                have up : ∀ {p : Addr} {v : Value}, W2.drew.cell? p = some v → (W2.drew.alloc (.cells #[.string ⟨#[103, 114, 97, 110, 116]⟩, .string ⟨nx.toArray⟩, .string ⟨ny.toArray⟩, .string ⟨nz.toArray⟩] 9)).cell? p = some v := fun h => (World.cell?_alloc_lt W2.drew _ _ (World.block_lt_of_cell? W2.drew _ h)).trans h
                exact ⟨up t1, ⟨up t2, up t3, up t4⟩, up t5, up t6, up t7⟩
              refine hK5.out _ _ hS5 (fun _ => ?_)
              clear hK5 K5
              refine wpAnyH_ready (rs := [19]) (by kernel_rfl) (by simp) ?_
              refine AllReadyH.cons rfl (fun K5 hK5 => ?_) AllReadyH.nil
              go_simp
              have S8 := SW.out W2.drew BD
              go_at_call 40
              refine S8.mono ?_
              rintro e w9 ⟨rfl, h9, hk9⟩
              have S9 := Lib.hid h9
              have g9 := hk9 gw _ _ HG2.out HGB.out (by decide)
              have hS9 : (fun w' : World => w'.cell? ⟨w.heap.size, 0, none⟩ = some (.slice (some ⟨nb, no, none⟩) a nc) ∧ (w'.cell? ⟨gw, 0, none⟩ = some (.int .i64 (x : Int)) ∧ w'.cell? ⟨gw, 1, none⟩ = some (.int .i64 (y : Int)) ∧ w'.cell? ⟨gw, 2, none⟩ = some (.int .i64 (z : Int))) ∧ w'.cell? ⟨nb, no + x, none⟩ = some (.string ⟨nx.toArray⟩) ∧ w'.cell? ⟨nb, no + y, none⟩ = some (.string ⟨ny.toArray⟩) ∧ w'.cell? ⟨nb, no + z, none⟩ = some (.string ⟨nz.toArray⟩)) w9 := ⟨(HFB.out w9 h9.bel).1.1, by rw [g9.cell, g9.cell, g9.cell]; simp, HNM.out w9 h9.bel⟩
              refine hK5.out _ _ hS9 (fun _ => ?_)
              clear hK5 K5
              refine wpAnyH_done (by kernel_rfl) ?_ _
              refine hK _ _ ?_
              go_wp2
              go_roundw
              case rel => exact ⟨m + 1, by omega, by go_num, S9.out⟩
              case measure => simp [intOf]; omega
            · obtain rfl : m = gn := by omega
              have HFN : Hid (showN cf = L1 ++ grasN cf m) := Lib.hid (by rw [HSH.out, ← HNL.out, HL0.out, HL1.out, ← HGL.out])
              obtain ⟨wc, hwc⟩ : ∃ wc : World, wc = wr := ⟨_, rfl⟩
              subst hwc
              have ST5 := Lib.hid (string_any b b (L1 ++ grasN cf m) wc ST3.out.bd (Nat.le_trans HWZ.out ST3.out.bel.size))
              have BF := Lib.hid (HFW.out wc ST3.out.bel)
              go_wp2_with (go_at_call 43; (with_reducible refine ST5.out.mono ?_); rintro e w6 ⟨rfl, h6⟩; have B6 := Lib.hid (BF.out.trans (h6.mono (Nat.le_of_lt hwb))); clear h6)
              go_ret
              exact ⟨by rw [HFN.out]; rfl, B6.out⟩

theorem coShow_any (c : Cf) (s : Cs) (w : World) (ht : Base5 w) (h : ArgC w s c) (hn : s.nn ≤ 1000) (hu : s.un ≤ 1000) : Calls Tryz.prog 14 #[s.v] w (TextEnd (showN c) w) := by
  cases hck : checkC c
  · have HC := Lib.hid (fun w1 (hb : Below w.heap.size w w1) => by
      have := coCheck_any c s w1 (ht.below hb) (h.below hb) hn (by omega)
      rw [hck] at this
      exact this)
    have hs : showN c = [] := by unfold showN; rw [hck]; rfl
    rw [hs]
    unfold Cs.v at HC ⊢
    obtain ⟨nA, nn, nc, uA, un, uc, qA, qn, qc, gA, gn, gc⟩ := s
    simp only at HC ⊢
    have hBx : Has (w.alloc (.cells #[.slice nA nn nc, .slice uA un uc, .slice qA qn qc, .slice gA gn gc] 28)) w.heap.size 28 #[.slice nA nn nc, .slice uA un uc, .slice qA qn qc, .slice gA gn gc] := Has.made _ _ _
    have hB0 : Below w.heap.size w (w.alloc (.cells #[.slice nA nn nc, .slice uA un uc, .slice qA qn qc, .slice gA gn gc] 28)) := (Below.refl _ w).alloc (Nat.le_refl _) _
    obtain ⟨W0, hW0⟩ : ∃ W, w.alloc (.cells #[.slice nA nn nc, .slice uA un uc, .slice qA qn qc, .slice gA gn gc] 28) = W := ⟨_, rfl⟩
    rw [hW0] at hBx hB0
    have HB0 := Lib.hid hB0
    have b0 : W0.cell? ⟨w.heap.size, 0, none⟩ = some (.slice nA nn nc) := by rw [hBx.cell]; simp
    have b1 : W0.cell? ⟨w.heap.size, 1, none⟩ = some (.slice uA un uc) := by rw [hBx.cell]; simp
    have b2 : W0.cell? ⟨w.heap.size, 2, none⟩ = some (.slice qA qn qc) := by rw [hBx.cell]; simp
    have b3 : W0.cell? ⟨w.heap.size, 3, none⟩ = some (.slice gA gn gc) := by rw [hBx.cell]; simp
    clear hBx hB0 hs hck ht h
    go_enter Tryz.func14, Tryz.ntmps14
    go_wp2_with (first
      | (rw [hW0])
      | (go_at_call 12; (with_reducible refine (HC.out _ HB0.out).mono ?_); rintro e w1 ⟨rfl, h1⟩; have B1 := Lib.hid (below_step HB0.out h1); clear h1))
    go_ret
    exact ⟨rfl, B1.out⟩
  · exact coShow_yes c s w ht h hck

end Go.Proofs.YtglkmpglpddfdaaGreatDoor
