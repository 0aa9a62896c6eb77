/- The walk of the law DiskStays. -/
import Derived.Test.YthbchloghbfnmaaDym
namespace Go.Proofs.Ythbchloghbfnmaa
open Go.RowKit
set_option linter.unusedVariables false

set_option maxRecDepth 100000 in
set_option maxHeartbeats 8000000 in
theorem walkStays (A1 A2 : Option Addr) (n1 c1 n2 c2 : Nat) (fl mo ks : List UInt8) (w : World) (hf : Arg w A1 n1 c1 fl) (hm : Arg w A2 n2 c2 mo) (hks : ks.length ≤ 9223372036854775807) :
    Calls Try.prog 5 #[.slice A1 n1 c1, .slice A2 n2 c2, .string ⟨ks.toArray⟩] w fun e w' => e = .returned (.bool true) ∧ Below w.heap.size w w' := by
  have HF := Lib.hid hf
  have HM := Lib.hid hm
  obtain ⟨n3, hn3⟩ : ∃ n3, ks.length = n3 := ⟨_, rfl⟩
  have hsz : (⟨ks.toArray⟩ : ByteArray).size = n3 := by rw [size_list]; exact hn3
  have HKS := Lib.hid hks
  clear hf hm hks
  have HN3 := Lib.hid hn3
  obtain ⟨sK, hsK⟩ : ∃ s : ByteArray, s = ⟨ks.toArray⟩ := ⟨_, rfl⟩
  rw [← hsK] at hsz ⊢
  have HSK := Lib.hid hsK
  clear hsK hn3
  by_cases h1 : n1 ≤ 30
  · have e1 : decide ((30 : Int) < (n1 : Int)) = false := by simp; omega
    by_cases h2 : n2 ≤ 30
    · have e2 : decide ((30 : Int) < (n2 : Int)) = false := by simp; omega
      by_cases h3 : n3 ≤ 10
      · have e3 : decide ((10 : Int) < (n3 : Int)) = false := by simp; omega
        obtain ⟨r0, hr0⟩ : ∃ q, ([30].map fun x : Int => fresh6 x.toNat) = q := ⟨_, rfl⟩
        have HR0 : Hid (r0 = [R30 (fun _ => none) (wsF 0 (fl.take 0))]) := Lib.hid (by rw [← hr0]; rfl)
        have HR1 := Lib.hid hr0
        clear hr0
        go_enter Try.func5, Try.ntmps5
        go_wp2_with (first
          | (go_at_call 8; (with_reducible refine (awake06_any _).mono ?_); rintro e w1 ⟨rfl, h0⟩; have B1 := Lib.hid h0; clear h0)
          | (go_at_call 10; have hI : Ints6 (w1.alloc (.cells #[.int .i64 30] 3)) (some ⟨w1.heap.size, 0, none⟩) 1 [30] := ints_lit w1 [30] _ rfl; have hq := New_z (w0 := w) (c := 1) 0 hI (lo_none _ _) (below_alloc' B1.out _) (by decide); rw [HR1.out, HR0.out] at hq; (with_reducible refine hq.mono ?_); clear hq hI; rintro e w3 ⟨D, DA, T3, rfl, h1, _, _⟩; have Z3 := Lib.hid h1; clear h1)
          | (go_at_call 10; have hI : Ints6 (w3.alloc (.cells #[.int .i64 30] 3)) (some ⟨w3.heap.size, 0, none⟩) 1 [30] := ints_lit w3 [30] _ rfl; have ZZ := Z3.out.below ((Below.refl _ w3).alloc (Nat.le_refl _) (.cells #[.int .i64 30] 3)); have hq := New_z (w0 := w) (c := 1) 1 hI ZZ.lo ZZ.bel (by decide); rw [HR1.out, HR0.out] at hq; (with_reducible refine hq.mono ?_); clear hq hI; rintro e w4 ⟨E, EA, T4, rfl, h1, h2, _⟩; have Y4 := Lib.hid h1; have Z4 := Lib.hid (ZZ.other h2 (by decide)); clear h1 h2 ZZ))
        go_loopw [12] (fun i wr => ∃ (k : Nat) (T : Tg), k ≤ n1 ∧ i = .int .i64 (k : Int) ∧ Dz w wr T 0 D DA (0 + k) [R30 (fun _ => none) (wsF 0 (fl.take k))] ∧ Dz w wr T 1 E EA (0 + k) [R30 (fun _ => none) (wsF 0 (fl.take k))]) (fun i _ => n1 - (intOf i).toNat)
        case atStart => exact ⟨0, T4, Nat.zero_le _, rfl, Z4.out, Y4.out⟩
        case round =>
          obtain ⟨k, T, hk, rfl, hz, hy⟩ := hrel
          have HZ := Lib.hid hz
          have HY := Lib.hid hy
          by_cases hlt : k < n1
          · obtain ⟨b, off, rfl, hcs⟩ := (HF.out.below (hz.bel)).reads (by rw [List.length_map, ← HF.out.len]; omega)
            have OLD1 : Hid (b < w.heap.size) := Lib.hid (HF.out.old (by omega) _ rfl)
            have hkl : k < fl.length := by rw [← HF.out.len]; exact hlt
            have ck : wr.cell? ⟨b, off + k, none⟩ = some (.int .u8 (fl[k].toNat : Int)) := hcs k _ (by simp [List.getElem?_eq_getElem hkl, byteV])
            have HWS : Hid (wsF 0 (fl.take (k + 1)) = wsF 0 (fl.take k) ++ [((k : Int), pgs fl[k])]) := Lib.hid (by rw [List.take_succ_eq_append_getElem hkl, wsF_snoc]; simp; omega)
            obtain ⟨u, hu⟩ : ∃ u, fl[k] = u := ⟨_, rfl⟩
            rw [hu] at ck HWS
            have HP := Lib.hid (fun w1 => show Calls Try.prog 13 #[.agg #[.int .i64 0, .int .i64 0, .int .i64 0, .int .u8 (u.toNat : Int), .bool false, .slice none 0 0]] w1 (PgEnd (pgs u) w1) from page_any ⟨0, 0, 0, u, false, []⟩ (.slice none 0 0) rfl w1)
            have HK30 : Hid (k < 30) := Lib.hid (by omega)
            have HW := Lib.hid (wr_R30 (fun _ => none) (wsF 0 (fl.take k)) HK30.out u)
            have i1 : (k : Int) < n1 := by omega
            have i0 : (0 : Int) ≤ k := by omega
            clear hu hcs hkl hz hy
            go_wp2_with (first
              | (go_at_call 13; (with_reducible refine (HP.out _).mono ?_); rintro e w2 ⟨g2, rfl, h2, h3, h4⟩; have ZA := Lib.hid (HZ.out.below h4); have YA := Lib.hid (HY.out.below h4); have KA : Hid (Bk w2 T g2 5 _) := Lib.hid ⟨h3, HZ.out.lo.un h2⟩; have ckA := cell_below ck h4; clear h2 h3 h4)
              | (go_at_call 12; have hq := Write_z 0 (k : Int) (pgs u) g2 ZA.out (by omega) KA.out; rw [HW.out] at hq; (with_reducible refine hq.mono ?_); clear hq; rintro e w3 ⟨rfl, T3, h1, h2⟩; have ZB := Lib.hid h1; have YB := Lib.hid (YA.out.other h2 (by decide)); have ckB : w3.cell? ⟨b, off + k, none⟩ = some (.int .u8 (u.toNat : Int)) := (cell_heap (p := ⟨b, off + k, none⟩) (h2.block b (World.block_lt_of_cell? w2 _ ckA) (fun j hj => absurd (ZA.out.lo b _ hj).1 (by have := OLD1.out; omega)))).trans ckA; clear h1 h2)
              | (go_at_call 13; (with_reducible refine (HP.out _).mono ?_); rintro e w4 ⟨g4, rfl, h2, h3, h4⟩; have ZC := Lib.hid (ZB.out.below h4); have YC := Lib.hid (YB.out.below h4); have KC : Hid (Bk w4 T3 g4 5 _) := Lib.hid ⟨h3, ZB.out.lo.un h2⟩; clear h2 h3 h4)
              | (go_at_call 12; have hq := Write_z 0 (k : Int) (pgs u) g4 YC.out (by omega) KC.out; rw [HW.out] at hq; (with_reducible refine hq.mono ?_); clear hq; rintro e w5 ⟨rfl, T5, h1, h2⟩; have YD := Lib.hid h1; have ZD := Lib.hid (ZC.out.other h2 (by decide)); clear h1 h2))
            go_roundw
            case rel => exact ⟨k + 1, T5, by omega, by go_num, by rw [HWS.out]; exact ZD.out, by rw [HWS.out]; exact YD.out⟩
            case measure => simp [intOf]; omega
          · obtain rfl : k = n1 := by omega
            have HFL : Hid (fl.take k = fl) := Lib.hid (List.take_of_length_le (by rw [← HF.out.len]; exact Nat.le_refl _))
            clear hz hy
            obtain ⟨f1, hf1⟩ : ∃ f, setK allK 0 (wsF 0 fl) (fun _ => none) = f := ⟨_, rfl⟩
            have HF1 := Lib.hid hf1
            clear hf1
            go_wp2_with (first
              | (go_at_call 15; have hq := Sync_z 0 HZ.out (by omega); rw [sy_R30, HFL.out, HF1.out] at hq; (with_reducible refine hq.mono ?_); clear hq; rintro e w7 ⟨rfl, T7, h1, h2⟩; have Z7 := Lib.hid h1; have Y7 := Lib.hid (HY.out.other h2 (by decide)); clear h1 h2)
              | (go_at_call 15; have hq := Sync_z 0 Y7.out (by omega); rw [sy_R30, HFL.out, HF1.out] at hq; (with_reducible refine hq.mono ?_); clear hq; rintro e w8 ⟨rfl, T8, h1, h2⟩; have Y8 := Lib.hid h1; have Z8 := Lib.hid (Z7.out.other h2 (by decide)); clear h1 h2))
            go_loopw [13] (fun i wr => ∃ (k2 : Nat) (T : Tg), k2 ≤ n2 ∧ i = .int .i64 (k2 : Int) ∧ Dz w wr T 0 D DA (30 + k2) [R30 f1 (wsF 0 (mo.take k2))] ∧ Dz w wr T 1 E EA (30 + k2) [R30 f1 (wsF 0 (mo.take k2))]) (fun i _ => n2 - (intOf i).toNat)
            case atStart => exact ⟨0, T8, Nat.zero_le _, rfl, Z8.out.more (by omega), Y8.out.more (by omega)⟩
            case round =>
              obtain ⟨k2, T, hk2, rfl, hz, hy⟩ := hrel
              have HZ := Lib.hid hz
              have HY := Lib.hid hy
              by_cases hlt : k2 < n2
              · obtain ⟨b, off, rfl, hcs⟩ := (HM.out.below (hz.bel)).reads (by rw [List.length_map, ← HM.out.len]; omega)
                have OLD2 : Hid (b < w.heap.size) := Lib.hid (HM.out.old (by omega) _ rfl)
                have hkl : k2 < mo.length := by rw [← HM.out.len]; exact hlt
                have ck : wr.cell? ⟨b, off + k2, none⟩ = some (.int .u8 (mo[k2].toNat : Int)) := hcs k2 _ (by simp [List.getElem?_eq_getElem hkl, byteV])
                have HWS : Hid (wsF 0 (mo.take (k2 + 1)) = wsF 0 (mo.take k2) ++ [((k2 : Int), pgs mo[k2])]) := Lib.hid (by rw [List.take_succ_eq_append_getElem hkl, wsF_snoc]; simp; omega)
                obtain ⟨u, hu⟩ : ∃ u, mo[k2] = u := ⟨_, rfl⟩
                rw [hu] at ck HWS
                have HP := Lib.hid (fun w1 => show Calls Try.prog 13 #[.agg #[.int .i64 0, .int .i64 0, .int .i64 0, .int .u8 (u.toNat : Int), .bool false, .slice none 0 0]] w1 (PgEnd (pgs u) w1) from page_any ⟨0, 0, 0, u, false, []⟩ (.slice none 0 0) rfl w1)
                have HK30 : Hid (k2 < 30) := Lib.hid (by omega)
                have HW := Lib.hid (wr_R30 f1 (wsF 0 (mo.take k2)) HK30.out u)
                have i1 : (k2 : Int) < n2 := by omega
                have i0 : (0 : Int) ≤ k2 := by omega
                clear hu hcs hkl hz hy
                go_wp2_with (first
                  | (go_at_call 13; (with_reducible refine (HP.out _).mono ?_); rintro e w2 ⟨g2, rfl, h2, h3, h4⟩; have ZA := Lib.hid (HZ.out.below h4); have YA := Lib.hid (HY.out.below h4); have KA : Hid (Bk w2 T g2 5 _) := Lib.hid ⟨h3, HZ.out.lo.un h2⟩; have ckA := cell_below ck h4; clear h2 h3 h4)
                  | (go_at_call 12; have hq := Write_z 0 (k2 : Int) (pgs u) g2 ZA.out (by omega) KA.out; rw [HW.out] at hq; (with_reducible refine hq.mono ?_); clear hq; rintro e w3 ⟨rfl, T3, h1, h2⟩; have ZB := Lib.hid h1; have YB := Lib.hid (YA.out.other h2 (by decide)); have ckB : w3.cell? ⟨b, off + k2, none⟩ = some (.int .u8 (u.toNat : Int)) := (cell_heap (p := ⟨b, off + k2, none⟩) (h2.block b (World.block_lt_of_cell? w2 _ ckA) (fun j hj => absurd (ZA.out.lo b _ hj).1 (by have := OLD2.out; omega)))).trans ckA; clear h1 h2)
                  | (go_at_call 13; (with_reducible refine (HP.out _).mono ?_); rintro e w4 ⟨g4, rfl, h2, h3, h4⟩; have ZC := Lib.hid (ZB.out.below h4); have YC := Lib.hid (YB.out.below h4); have KC : Hid (Bk w4 T3 g4 5 _) := Lib.hid ⟨h3, ZB.out.lo.un h2⟩; clear h2 h3 h4)
                  | (go_at_call 12; have hq := Write_z 0 (k2 : Int) (pgs u) g4 YC.out (by omega) KC.out; rw [HW.out] at hq; (with_reducible refine hq.mono ?_); clear hq; rintro e w5 ⟨rfl, T5, h1, h2⟩; have YD := Lib.hid h1; have ZD := Lib.hid (ZC.out.other h2 (by decide)); clear h1 h2))
                go_roundw
                case rel => exact ⟨k2 + 1, T5, by omega, by go_num, by rw [HWS.out]; exact ZD.out, by rw [HWS.out]; exact YD.out⟩
                case measure => simp [intOf]; omega
              · obtain rfl : k2 = n2 := by omega
                have HFM : Hid (mo.take k2 = mo) := Lib.hid (List.take_of_length_le (by rw [← HM.out.len]; exact Nat.le_refl _))
                clear hz hy
                have HGX := Lib.hid (fun i => got_R30 fl mo ks i)
                have HGY := Lib.hid (fun i => got_R30 fl mo ff4 i)
                rw [HF1.out] at HGX HGY
                obtain ⟨fx, hfx⟩ : ∃ f, setK (bitS ks) 0 (wsF 0 mo) f1 = f := ⟨_, rfl⟩
                have HFX := Lib.hid hfx
                obtain ⟨fy, hfy⟩ : ∃ f, setK (bitS ff4) 0 (wsF 0 mo) f1 = f := ⟨_, rfl⟩
                have HFY := Lib.hid hfy
                rw [hfx] at HGX
                rw [hfy] at HGY
                clear hfx hfy
                have HTX := Lib.hid (fun (w1 : World) o ho => txts_one w1 ks HKS.out o ho)
                rw [← HSK.out] at HTX
                have HTY := Lib.hid (fun (w1 : World) o ho => txts_one w1 ff4 (by decide) o ho)
                go_wp2_with (first
                  | (go_at_call 19; have hb8 := (Below.refl _ wr).alloc (Nat.le_refl _) (.cells #[.string sK] 9); have Z8b := HZ.out.below hb8; have Y8b := HY.out.below hb8; have hq := Crash_z (some ⟨wr.heap.size, 0, none⟩) 1 1 [ks] Z8b (by omega) (HTX.out wr _ rfl) (fun _ a ha => by injection ha with ha; subst ha; exact HZ.out.lo.un (Nat.le_refl _)) (by simp); rw [HFM.out, cr_R30, HFX.out] at hq; (with_reducible refine hq.mono ?_); clear hq; rintro e wa ⟨rfl, Ta, h1, h2⟩; have Za := Lib.hid h1; have Ya := Lib.hid (Y8b.other h2 (by decide)); clear h1 h2 hb8 Z8b Y8b)
                  | (go_at_call 19; have hb8 := (Below.refl _ wa).alloc (Nat.le_refl _) (.cells #[.string ⟨#[255, 255, 255, 255]⟩] 9); have Z8b := Za.out.below hb8; have Y8b := Ya.out.below hb8; have hq := Crash_z (some ⟨wa.heap.size, 0, none⟩) 1 1 [ff4] Y8b (by omega) (HTY.out wa _ rfl) (fun _ a ha => by injection ha with ha; subst ha; exact Ya.out.lo.un (Nat.le_refl _)) (by simp); rw [HFM.out, cr_R30, HFY.out] at hq; (with_reducible refine hq.mono ?_); clear hq; rintro e wb ⟨rfl, Tb, h1, h2⟩; have Yb := Lib.hid h1; have Zb := Lib.hid (Z8b.other h2 (by decide)); clear h1 h2 hb8 Z8b Y8b))
                go_loopw [14] (fun q wr => ∃ (i : Nat), i ≤ 30 ∧ q = .int .i64 (i : Int) ∧ Dz w wr Tb 0 D DA (30 + k2) [R30 fx []] ∧ Dz w wr Tb 1 E EA (30 + k2) [R30 fy []]) (fun q _ => 30 - (intOf q).toNat)
                case atStart => exact ⟨0, Nat.zero_le _, rfl, Zb.out, Yb.out⟩
                case round =>
                  obtain ⟨i, hi0, rfl, hz, hy⟩ := hrel
                  have HZ2 := Lib.hid hz
                  have HY2 := Lib.hid hy
                  clear hz hy
                  by_cases hi : i < 30
                  · have i0 : (0 : Int) ≤ i := by omega
                    have i1 : (i : Int) < 30 := by omega
                    have q8 := quo8 i
                    have r8 := rem8 i
                    have HE1 := Lib.hid (rd_R30 fx hi).1
                    have HE2 := Lib.hid (rd_R30 fy hi).1
                    by_cases hi3 : i / 8 < n3
                    · have hkn : i / 8 < ks.length := by rw [HN3.out]; exact hi3
                      obtain ⟨kb, hkb⟩ : ∃ kb, ks[i / 8].toNat = kb := ⟨_, rfl⟩
                      have hkb2 : kb < 256 := by rw [← hkb]; exact UInt8.toNat_lt _
                      have hix : ∀ h : i / 8 < sK.size, (sK[i / 8]'h).toNat = kb := by
                        rw [← hkb]
                        have := HSK.out
                        subst this
                        intro h
                        rfl
                      have HBT := Lib.hid (fun w1 => (show kb.testBit (i % 8) = bitS ks i by rw [← hkb]; exact keep_bit ks hkn) ▸ r3Bit_any kb (i % 8) w1 (by omega) (by omega))
                      have i8 : (0 : Int) ≤ ((i / 8 : Nat) : Int) := by omega
                      clear hkb hkn
                      by_cases hi1 : i < k
                      · by_cases hi2 : i < k2
                        · cases hb : bitS ks i
                          · obtain ⟨ua, uo, rfl, hcs⟩ := (HF.out.below HZ2.out.bel).reads (by rw [List.length_map, ← HF.out.len]; omega)
                            have hkl : i < fl.length := by rw [← HF.out.len]; exact hi1
                            have ck1 : wr.cell? ⟨ua, uo + i, none⟩ = some (.int .u8 (fl[i].toNat : Int)) := hcs i _ (by simp [List.getElem?_eq_getElem hkl, byteV])
                            have hw : wasB fl i = fl[i] := by simp [wasB, List.getD, hkl]
                            obtain ⟨u, hu⟩ : ∃ u, fl[i] = u := ⟨_, rfl⟩
                            rw [hu] at ck1 hw
                            clear hu hcs hkl
                            have j1 : (i : Int) < k := by omega
                            obtain ⟨va, vo, rfl, hcs⟩ := (HM.out.below HZ2.out.bel).reads (by rw [List.length_map, ← HM.out.len]; omega)
                            have hkl : i < mo.length := by rw [← HM.out.len]; exact hi2
                            have ck2 : wr.cell? ⟨va, vo + i, none⟩ = some (.int .u8 (mo[i].toNat : Int)) := hcs i _ (by simp [List.getElem?_eq_getElem hkl, byteV])
                            have hn : nowB fl mo i = mo[i] := by simp [nowB, List.getD, hkl]
                            obtain ⟨v, hv⟩ : ∃ v, mo[i] = v := ⟨_, rfl⟩
                            rw [hv] at ck2 hn
                            clear hv hcs hkl
                            have j2 : (i : Int) < k2 := by omega
                            have j3 : ((i / 8 : Nat) : Int) < n3 := by omega
                            have hg : gotB fl mo ks i = u := by simp only [gotB, hb]; exact hw
                            have HBit := Lib.hid (fun w1 => hb ▸ HBT.out w1)
                            have HXE : Hid (rdL [R30 fx []] 0 (i : Int) = pgs u) := Lib.hid (by rw [(rd_R30 fx hi).2, HGX.out i, hg])
                            have HYE : Hid (rdL [R30 fy []] 0 (i : Int) = pgs v) := Lib.hid (by rw [(rd_R30 fy hi).2, HGY.out i, got_ff fl mo hi, hn])
                            clear hw hn hg hb hi1 hi2 hi3
                            go_wp2_with (first
                              | (go_at_call 21; have hq := Read_z 0 (i : Int) HZ2.out; rw [HXE.out] at hq; (with_reducible refine hq.mono ?_); clear hq; intro e wc hr; obtain ⟨h1, gx, rfl, h3, h4, h5⟩ := rd_any HE1.out hr; have Zc := Lib.hid (HZ2.out.below h1); have Yc := Lib.hid (HY2.out.below h1); have Xc : Hid (Bk wc Tb gx 88 _) := Lib.hid ⟨h4, HZ2.out.lo.un h3⟩; clear hr h1 h3 h4 h5)
                              | (go_at_call 21; have hq := Read_z 0 (i : Int) Yc.out; rw [HYE.out] at hq; (with_reducible refine hq.mono ?_); clear hq; intro e wd hr; obtain ⟨h1, gy, rfl, h3, h4, h5⟩ := rd_any HE2.out hr; have Zd := Lib.hid (Zc.out.below h1); have Yd := Lib.hid (Yc.out.below h1); have Xd := Lib.hid (Xc.out.below h1); have Vd : Hid (Bk wd Tb gy 88 _) := Lib.hid ⟨h4, Yc.out.lo.un h3⟩; have cx := Xd.out.five; have cy := Vd.out.five; clear hr h1 h3 h4 h5)
                              | (go_at_call 29; refine (HBit.out _).mono ?_; rintro e w' ⟨rfl, rfl⟩))
                            go_roundw
                            case rel => exact ⟨i + 1, by omega, by go_num, Zd.out, Yd.out⟩
                            case measure => simp [intOf]; omega
                          · obtain ⟨ua, uo, rfl, hcs⟩ := (HF.out.below HZ2.out.bel).reads (by rw [List.length_map, ← HF.out.len]; omega)
                            have hkl : i < fl.length := by rw [← HF.out.len]; exact hi1
                            have ck1 : wr.cell? ⟨ua, uo + i, none⟩ = some (.int .u8 (fl[i].toNat : Int)) := hcs i _ (by simp [List.getElem?_eq_getElem hkl, byteV])
                            have hw : wasB fl i = fl[i] := by simp [wasB, List.getD, hkl]
                            obtain ⟨u, hu⟩ : ∃ u, fl[i] = u := ⟨_, rfl⟩
                            rw [hu] at ck1 hw
                            clear hu hcs hkl
                            have j1 : (i : Int) < k := by omega
                            obtain ⟨va, vo, rfl, hcs⟩ := (HM.out.below HZ2.out.bel).reads (by rw [List.length_map, ← HM.out.len]; omega)
                            have hkl : i < mo.length := by rw [← HM.out.len]; exact hi2
                            have ck2 : wr.cell? ⟨va, vo + i, none⟩ = some (.int .u8 (mo[i].toNat : Int)) := hcs i _ (by simp [List.getElem?_eq_getElem hkl, byteV])
                            have hn : nowB fl mo i = mo[i] := by simp [nowB, List.getD, hkl]
                            obtain ⟨v, hv⟩ : ∃ v, mo[i] = v := ⟨_, rfl⟩
                            rw [hv] at ck2 hn
                            clear hv hcs hkl
                            have j2 : (i : Int) < k2 := by omega
                            have j3 : ((i / 8 : Nat) : Int) < n3 := by omega
                            have hg : gotB fl mo ks i = v := by simp only [gotB, hb]; exact hn
                            have HBit := Lib.hid (fun w1 => hb ▸ HBT.out w1)
                            have HXE : Hid (rdL [R30 fx []] 0 (i : Int) = pgs v) := Lib.hid (by rw [(rd_R30 fx hi).2, HGX.out i, hg])
                            have HYE : Hid (rdL [R30 fy []] 0 (i : Int) = pgs v) := Lib.hid (by rw [(rd_R30 fy hi).2, HGY.out i, got_ff fl mo hi, hn])
                            clear hw hn hg hb hi1 hi2 hi3
                            go_wp2_with (first
                              | (go_at_call 21; have hq := Read_z 0 (i : Int) HZ2.out; rw [HXE.out] at hq; (with_reducible refine hq.mono ?_); clear hq; intro e wc hr; obtain ⟨h1, gx, rfl, h3, h4, h5⟩ := rd_any HE1.out hr; have Zc := Lib.hid (HZ2.out.below h1); have Yc := Lib.hid (HY2.out.below h1); have Xc : Hid (Bk wc Tb gx 88 _) := Lib.hid ⟨h4, HZ2.out.lo.un h3⟩; clear hr h1 h3 h4 h5)
                              | (go_at_call 21; have hq := Read_z 0 (i : Int) Yc.out; rw [HYE.out] at hq; (with_reducible refine hq.mono ?_); clear hq; intro e wd hr; obtain ⟨h1, gy, rfl, h3, h4, h5⟩ := rd_any HE2.out hr; have Zd := Lib.hid (Zc.out.below h1); have Yd := Lib.hid (Yc.out.below h1); have Xd := Lib.hid (Xc.out.below h1); have Vd : Hid (Bk wd Tb gy 88 _) := Lib.hid ⟨h4, Yc.out.lo.un h3⟩; have cx := Xd.out.five; have cy := Vd.out.five; clear hr h1 h3 h4 h5)
                              | (go_at_call 29; refine (HBit.out _).mono ?_; rintro e w' ⟨rfl, rfl⟩))
                            go_roundw
                            case rel => exact ⟨i + 1, by omega, by go_num, Zd.out, Yd.out⟩
                            case measure => simp [intOf]; omega
                        · cases hb : bitS ks i
                          · obtain ⟨ua, uo, rfl, hcs⟩ := (HF.out.below HZ2.out.bel).reads (by rw [List.length_map, ← HF.out.len]; omega)
                            have hkl : i < fl.length := by rw [← HF.out.len]; exact hi1
                            have ck1 : wr.cell? ⟨ua, uo + i, none⟩ = some (.int .u8 (fl[i].toNat : Int)) := hcs i _ (by simp [List.getElem?_eq_getElem hkl, byteV])
                            have hw : wasB fl i = fl[i] := by simp [wasB, List.getD, hkl]
                            obtain ⟨u, hu⟩ : ∃ u, fl[i] = u := ⟨_, rfl⟩
                            rw [hu] at ck1 hw
                            clear hu hcs hkl
                            have j1 : (i : Int) < k := by omega
                            have hn : nowB fl mo i = wasB fl i := by simp only [nowB]; rw [if_neg (by rw [← HM.out.len]; omega)]
                            rw [hw] at hn
                            have j2 : ¬ (i : Int) < k2 := by omega
                            have j3 : ((i / 8 : Nat) : Int) < n3 := by omega
                            have hg : gotB fl mo ks i = u := by simp only [gotB, hb]; exact hw
                            have HBit := Lib.hid (fun w1 => hb ▸ HBT.out w1)
                            have HXE : Hid (rdL [R30 fx []] 0 (i : Int) = pgs u) := Lib.hid (by rw [(rd_R30 fx hi).2, HGX.out i, hg])
                            have HYE : Hid (rdL [R30 fy []] 0 (i : Int) = pgs u) := Lib.hid (by rw [(rd_R30 fy hi).2, HGY.out i, got_ff fl mo hi, hn])
                            clear hw hn hg hb hi1 hi2 hi3
                            go_wp2_with (first
                              | (go_at_call 21; have hq := Read_z 0 (i : Int) HZ2.out; rw [HXE.out] at hq; (with_reducible refine hq.mono ?_); clear hq; intro e wc hr; obtain ⟨h1, gx, rfl, h3, h4, h5⟩ := rd_any HE1.out hr; have Zc := Lib.hid (HZ2.out.below h1); have Yc := Lib.hid (HY2.out.below h1); have Xc : Hid (Bk wc Tb gx 88 _) := Lib.hid ⟨h4, HZ2.out.lo.un h3⟩; clear hr h1 h3 h4 h5)
                              | (go_at_call 21; have hq := Read_z 0 (i : Int) Yc.out; rw [HYE.out] at hq; (with_reducible refine hq.mono ?_); clear hq; intro e wd hr; obtain ⟨h1, gy, rfl, h3, h4, h5⟩ := rd_any HE2.out hr; have Zd := Lib.hid (Zc.out.below h1); have Yd := Lib.hid (Yc.out.below h1); have Xd := Lib.hid (Xc.out.below h1); have Vd : Hid (Bk wd Tb gy 88 _) := Lib.hid ⟨h4, Yc.out.lo.un h3⟩; have cx := Xd.out.five; have cy := Vd.out.five; clear hr h1 h3 h4 h5)
                              | (go_at_call 29; refine (HBit.out _).mono ?_; rintro e w' ⟨rfl, rfl⟩))
                            go_roundw
                            case rel => exact ⟨i + 1, by omega, by go_num, Zd.out, Yd.out⟩
                            case measure => simp [intOf]; omega
                          · obtain ⟨ua, uo, rfl, hcs⟩ := (HF.out.below HZ2.out.bel).reads (by rw [List.length_map, ← HF.out.len]; omega)
                            have hkl : i < fl.length := by rw [← HF.out.len]; exact hi1
                            have ck1 : wr.cell? ⟨ua, uo + i, none⟩ = some (.int .u8 (fl[i].toNat : Int)) := hcs i _ (by simp [List.getElem?_eq_getElem hkl, byteV])
                            have hw : wasB fl i = fl[i] := by simp [wasB, List.getD, hkl]
                            obtain ⟨u, hu⟩ : ∃ u, fl[i] = u := ⟨_, rfl⟩
                            rw [hu] at ck1 hw
                            clear hu hcs hkl
                            have j1 : (i : Int) < k := by omega
                            have hn : nowB fl mo i = wasB fl i := by simp only [nowB]; rw [if_neg (by rw [← HM.out.len]; omega)]
                            rw [hw] at hn
                            have j2 : ¬ (i : Int) < k2 := by omega
                            have j3 : ((i / 8 : Nat) : Int) < n3 := by omega
                            have hg : gotB fl mo ks i = u := by simp only [gotB, hb]; exact hn
                            have HBit := Lib.hid (fun w1 => hb ▸ HBT.out w1)
                            have HXE : Hid (rdL [R30 fx []] 0 (i : Int) = pgs u) := Lib.hid (by rw [(rd_R30 fx hi).2, HGX.out i, hg])
                            have HYE : Hid (rdL [R30 fy []] 0 (i : Int) = pgs u) := Lib.hid (by rw [(rd_R30 fy hi).2, HGY.out i, got_ff fl mo hi, hn])
                            clear hw hn hg hb hi1 hi2 hi3
                            go_wp2_with (first
                              | (go_at_call 21; have hq := Read_z 0 (i : Int) HZ2.out; rw [HXE.out] at hq; (with_reducible refine hq.mono ?_); clear hq; intro e wc hr; obtain ⟨h1, gx, rfl, h3, h4, h5⟩ := rd_any HE1.out hr; have Zc := Lib.hid (HZ2.out.below h1); have Yc := Lib.hid (HY2.out.below h1); have Xc : Hid (Bk wc Tb gx 88 _) := Lib.hid ⟨h4, HZ2.out.lo.un h3⟩; clear hr h1 h3 h4 h5)
                              | (go_at_call 21; have hq := Read_z 0 (i : Int) Yc.out; rw [HYE.out] at hq; (with_reducible refine hq.mono ?_); clear hq; intro e wd hr; obtain ⟨h1, gy, rfl, h3, h4, h5⟩ := rd_any HE2.out hr; have Zd := Lib.hid (Zc.out.below h1); have Yd := Lib.hid (Yc.out.below h1); have Xd := Lib.hid (Xc.out.below h1); have Vd : Hid (Bk wd Tb gy 88 _) := Lib.hid ⟨h4, Yc.out.lo.un h3⟩; have cx := Xd.out.five; have cy := Vd.out.five; clear hr h1 h3 h4 h5)
                              | (go_at_call 29; refine (HBit.out _).mono ?_; rintro e w' ⟨rfl, rfl⟩))
                            go_roundw
                            case rel => exact ⟨i + 1, by omega, by go_num, Zd.out, Yd.out⟩
                            case measure => simp [intOf]; omega
                      · by_cases hi2 : i < k2
                        · cases hb : bitS ks i
                          · have hw : wasB fl i = 0 := by simp [wasB, List.getD, List.getElem?_eq_none (show fl.length ≤ i by rw [← HF.out.len]; omega)]
                            have j1 : ¬ (i : Int) < k := by omega
                            obtain ⟨va, vo, rfl, hcs⟩ := (HM.out.below HZ2.out.bel).reads (by rw [List.length_map, ← HM.out.len]; omega)
                            have hkl : i < mo.length := by rw [← HM.out.len]; exact hi2
                            have ck2 : wr.cell? ⟨va, vo + i, none⟩ = some (.int .u8 (mo[i].toNat : Int)) := hcs i _ (by simp [List.getElem?_eq_getElem hkl, byteV])
                            have hn : nowB fl mo i = mo[i] := by simp [nowB, List.getD, hkl]
                            obtain ⟨v, hv⟩ : ∃ v, mo[i] = v := ⟨_, rfl⟩
                            rw [hv] at ck2 hn
                            clear hv hcs hkl
                            have j2 : (i : Int) < k2 := by omega
                            have j3 : ((i / 8 : Nat) : Int) < n3 := by omega
                            have hg : gotB fl mo ks i = 0 := by simp only [gotB, hb]; exact hw
                            have HBit := Lib.hid (fun w1 => hb ▸ HBT.out w1)
                            have HXE : Hid (rdL [R30 fx []] 0 (i : Int) = pgs 0) := Lib.hid (by rw [(rd_R30 fx hi).2, HGX.out i, hg])
                            have HYE : Hid (rdL [R30 fy []] 0 (i : Int) = pgs v) := Lib.hid (by rw [(rd_R30 fy hi).2, HGY.out i, got_ff fl mo hi, hn])
                            clear hw hn hg hb hi1 hi2 hi3
                            go_wp2_with (first
                              | (go_at_call 21; have hq := Read_z 0 (i : Int) HZ2.out; rw [HXE.out] at hq; (with_reducible refine hq.mono ?_); clear hq; intro e wc hr; obtain ⟨h1, gx, rfl, h3, h4, h5⟩ := rd_any HE1.out hr; have Zc := Lib.hid (HZ2.out.below h1); have Yc := Lib.hid (HY2.out.below h1); have Xc : Hid (Bk wc Tb gx 88 _) := Lib.hid ⟨h4, HZ2.out.lo.un h3⟩; clear hr h1 h3 h4 h5)
                              | (go_at_call 21; have hq := Read_z 0 (i : Int) Yc.out; rw [HYE.out] at hq; (with_reducible refine hq.mono ?_); clear hq; intro e wd hr; obtain ⟨h1, gy, rfl, h3, h4, h5⟩ := rd_any HE2.out hr; have Zd := Lib.hid (Zc.out.below h1); have Yd := Lib.hid (Yc.out.below h1); have Xd := Lib.hid (Xc.out.below h1); have Vd : Hid (Bk wd Tb gy 88 _) := Lib.hid ⟨h4, Yc.out.lo.un h3⟩; have cx := Xd.out.five; have cy := Vd.out.five; clear hr h1 h3 h4 h5)
                              | (go_at_call 29; refine (HBit.out _).mono ?_; rintro e w' ⟨rfl, rfl⟩))
                            go_roundw
                            case rel => exact ⟨i + 1, by omega, by go_num, Zd.out, Yd.out⟩
                            case measure => simp [intOf]; omega
                          · have hw : wasB fl i = 0 := by simp [wasB, List.getD, List.getElem?_eq_none (show fl.length ≤ i by rw [← HF.out.len]; omega)]
                            have j1 : ¬ (i : Int) < k := by omega
                            obtain ⟨va, vo, rfl, hcs⟩ := (HM.out.below HZ2.out.bel).reads (by rw [List.length_map, ← HM.out.len]; omega)
                            have hkl : i < mo.length := by rw [← HM.out.len]; exact hi2
                            have ck2 : wr.cell? ⟨va, vo + i, none⟩ = some (.int .u8 (mo[i].toNat : Int)) := hcs i _ (by simp [List.getElem?_eq_getElem hkl, byteV])
                            have hn : nowB fl mo i = mo[i] := by simp [nowB, List.getD, hkl]
                            obtain ⟨v, hv⟩ : ∃ v, mo[i] = v := ⟨_, rfl⟩
                            rw [hv] at ck2 hn
                            clear hv hcs hkl
                            have j2 : (i : Int) < k2 := by omega
                            have j3 : ((i / 8 : Nat) : Int) < n3 := by omega
                            have hg : gotB fl mo ks i = v := by simp only [gotB, hb]; exact hn
                            have HBit := Lib.hid (fun w1 => hb ▸ HBT.out w1)
                            have HXE : Hid (rdL [R30 fx []] 0 (i : Int) = pgs v) := Lib.hid (by rw [(rd_R30 fx hi).2, HGX.out i, hg])
                            have HYE : Hid (rdL [R30 fy []] 0 (i : Int) = pgs v) := Lib.hid (by rw [(rd_R30 fy hi).2, HGY.out i, got_ff fl mo hi, hn])
                            clear hw hn hg hb hi1 hi2 hi3
                            go_wp2_with (first
                              | (go_at_call 21; have hq := Read_z 0 (i : Int) HZ2.out; rw [HXE.out] at hq; (with_reducible refine hq.mono ?_); clear hq; intro e wc hr; obtain ⟨h1, gx, rfl, h3, h4, h5⟩ := rd_any HE1.out hr; have Zc := Lib.hid (HZ2.out.below h1); have Yc := Lib.hid (HY2.out.below h1); have Xc : Hid (Bk wc Tb gx 88 _) := Lib.hid ⟨h4, HZ2.out.lo.un h3⟩; clear hr h1 h3 h4 h5)
                              | (go_at_call 21; have hq := Read_z 0 (i : Int) Yc.out; rw [HYE.out] at hq; (with_reducible refine hq.mono ?_); clear hq; intro e wd hr; obtain ⟨h1, gy, rfl, h3, h4, h5⟩ := rd_any HE2.out hr; have Zd := Lib.hid (Zc.out.below h1); have Yd := Lib.hid (Yc.out.below h1); have Xd := Lib.hid (Xc.out.below h1); have Vd : Hid (Bk wd Tb gy 88 _) := Lib.hid ⟨h4, Yc.out.lo.un h3⟩; have cx := Xd.out.five; have cy := Vd.out.five; clear hr h1 h3 h4 h5)
                              | (go_at_call 29; refine (HBit.out _).mono ?_; rintro e w' ⟨rfl, rfl⟩))
                            go_roundw
                            case rel => exact ⟨i + 1, by omega, by go_num, Zd.out, Yd.out⟩
                            case measure => simp [intOf]; omega
                        · cases hb : bitS ks i
                          · have hw : wasB fl i = 0 := by simp [wasB, List.getD, List.getElem?_eq_none (show fl.length ≤ i by rw [← HF.out.len]; omega)]
                            have j1 : ¬ (i : Int) < k := by omega
                            have hn : nowB fl mo i = wasB fl i := by simp only [nowB]; rw [if_neg (by rw [← HM.out.len]; omega)]
                            rw [hw] at hn
                            have j2 : ¬ (i : Int) < k2 := by omega
                            have j3 : ((i / 8 : Nat) : Int) < n3 := by omega
                            have hg : gotB fl mo ks i = 0 := by simp only [gotB, hb]; exact hw
                            have HBit := Lib.hid (fun w1 => hb ▸ HBT.out w1)
                            have HXE : Hid (rdL [R30 fx []] 0 (i : Int) = pgs 0) := Lib.hid (by rw [(rd_R30 fx hi).2, HGX.out i, hg])
                            have HYE : Hid (rdL [R30 fy []] 0 (i : Int) = pgs 0) := Lib.hid (by rw [(rd_R30 fy hi).2, HGY.out i, got_ff fl mo hi, hn])
                            clear hw hn hg hb hi1 hi2 hi3
                            go_wp2_with (first
                              | (go_at_call 21; have hq := Read_z 0 (i : Int) HZ2.out; rw [HXE.out] at hq; (with_reducible refine hq.mono ?_); clear hq; intro e wc hr; obtain ⟨h1, gx, rfl, h3, h4, h5⟩ := rd_any HE1.out hr; have Zc := Lib.hid (HZ2.out.below h1); have Yc := Lib.hid (HY2.out.below h1); have Xc : Hid (Bk wc Tb gx 88 _) := Lib.hid ⟨h4, HZ2.out.lo.un h3⟩; clear hr h1 h3 h4 h5)
                              | (go_at_call 21; have hq := Read_z 0 (i : Int) Yc.out; rw [HYE.out] at hq; (with_reducible refine hq.mono ?_); clear hq; intro e wd hr; obtain ⟨h1, gy, rfl, h3, h4, h5⟩ := rd_any HE2.out hr; have Zd := Lib.hid (Zc.out.below h1); have Yd := Lib.hid (Yc.out.below h1); have Xd := Lib.hid (Xc.out.below h1); have Vd : Hid (Bk wd Tb gy 88 _) := Lib.hid ⟨h4, Yc.out.lo.un h3⟩; have cx := Xd.out.five; have cy := Vd.out.five; clear hr h1 h3 h4 h5)
                              | (go_at_call 29; refine (HBit.out _).mono ?_; rintro e w' ⟨rfl, rfl⟩))
                            go_roundw
                            case rel => exact ⟨i + 1, by omega, by go_num, Zd.out, Yd.out⟩
                            case measure => simp [intOf]; omega
                          · have hw : wasB fl i = 0 := by simp [wasB, List.getD, List.getElem?_eq_none (show fl.length ≤ i by rw [← HF.out.len]; omega)]
                            have j1 : ¬ (i : Int) < k := by omega
                            have hn : nowB fl mo i = wasB fl i := by simp only [nowB]; rw [if_neg (by rw [← HM.out.len]; omega)]
                            rw [hw] at hn
                            have j2 : ¬ (i : Int) < k2 := by omega
                            have j3 : ((i / 8 : Nat) : Int) < n3 := by omega
                            have hg : gotB fl mo ks i = 0 := by simp only [gotB, hb]; exact hn
                            have HBit := Lib.hid (fun w1 => hb ▸ HBT.out w1)
                            have HXE : Hid (rdL [R30 fx []] 0 (i : Int) = pgs 0) := Lib.hid (by rw [(rd_R30 fx hi).2, HGX.out i, hg])
                            have HYE : Hid (rdL [R30 fy []] 0 (i : Int) = pgs 0) := Lib.hid (by rw [(rd_R30 fy hi).2, HGY.out i, got_ff fl mo hi, hn])
                            clear hw hn hg hb hi1 hi2 hi3
                            go_wp2_with (first
                              | (go_at_call 21; have hq := Read_z 0 (i : Int) HZ2.out; rw [HXE.out] at hq; (with_reducible refine hq.mono ?_); clear hq; intro e wc hr; obtain ⟨h1, gx, rfl, h3, h4, h5⟩ := rd_any HE1.out hr; have Zc := Lib.hid (HZ2.out.below h1); have Yc := Lib.hid (HY2.out.below h1); have Xc : Hid (Bk wc Tb gx 88 _) := Lib.hid ⟨h4, HZ2.out.lo.un h3⟩; clear hr h1 h3 h4 h5)
                              | (go_at_call 21; have hq := Read_z 0 (i : Int) Yc.out; rw [HYE.out] at hq; (with_reducible refine hq.mono ?_); clear hq; intro e wd hr; obtain ⟨h1, gy, rfl, h3, h4, h5⟩ := rd_any HE2.out hr; have Zd := Lib.hid (Zc.out.below h1); have Yd := Lib.hid (Yc.out.below h1); have Xd := Lib.hid (Xc.out.below h1); have Vd : Hid (Bk wd Tb gy 88 _) := Lib.hid ⟨h4, Yc.out.lo.un h3⟩; have cx := Xd.out.five; have cy := Vd.out.five; clear hr h1 h3 h4 h5)
                              | (go_at_call 29; refine (HBit.out _).mono ?_; rintro e w' ⟨rfl, rfl⟩))
                            go_roundw
                            case rel => exact ⟨i + 1, by omega, by go_num, Zd.out, Yd.out⟩
                            case measure => simp [intOf]; omega
                    · by_cases hi1 : i < k
                      · by_cases hi2 : i < k2
                        · obtain ⟨ua, uo, rfl, hcs⟩ := (HF.out.below HZ2.out.bel).reads (by rw [List.length_map, ← HF.out.len]; omega)
                          have hkl : i < fl.length := by rw [← HF.out.len]; exact hi1
                          have ck1 : wr.cell? ⟨ua, uo + i, none⟩ = some (.int .u8 (fl[i].toNat : Int)) := hcs i _ (by simp [List.getElem?_eq_getElem hkl, byteV])
                          have hw : wasB fl i = fl[i] := by simp [wasB, List.getD, hkl]
                          obtain ⟨u, hu⟩ : ∃ u, fl[i] = u := ⟨_, rfl⟩
                          rw [hu] at ck1 hw
                          clear hu hcs hkl
                          have j1 : (i : Int) < k := by omega
                          obtain ⟨va, vo, rfl, hcs⟩ := (HM.out.below HZ2.out.bel).reads (by rw [List.length_map, ← HM.out.len]; omega)
                          have hkl : i < mo.length := by rw [← HM.out.len]; exact hi2
                          have ck2 : wr.cell? ⟨va, vo + i, none⟩ = some (.int .u8 (mo[i].toNat : Int)) := hcs i _ (by simp [List.getElem?_eq_getElem hkl, byteV])
                          have hn : nowB fl mo i = mo[i] := by simp [nowB, List.getD, hkl]
                          obtain ⟨v, hv⟩ : ∃ v, mo[i] = v := ⟨_, rfl⟩
                          rw [hv] at ck2 hn
                          clear hv hcs hkl
                          have j2 : (i : Int) < k2 := by omega
                          have hb : bitS ks i = false := bit_no (by rw [HN3.out]; exact hi3)
                          have j3 : ¬ ((i / 8 : Nat) : Int) < n3 := by omega
                          have hg : gotB fl mo ks i = u := by simp only [gotB, hb]; exact hw
                          have HXE : Hid (rdL [R30 fx []] 0 (i : Int) = pgs u) := Lib.hid (by rw [(rd_R30 fx hi).2, HGX.out i, hg])
                          have HYE : Hid (rdL [R30 fy []] 0 (i : Int) = pgs v) := Lib.hid (by rw [(rd_R30 fy hi).2, HGY.out i, got_ff fl mo hi, hn])
                          clear hw hn hg hb hi1 hi2 hi3
                          go_wp2_with (first
                            | (go_at_call 21; have hq := Read_z 0 (i : Int) HZ2.out; rw [HXE.out] at hq; (with_reducible refine hq.mono ?_); clear hq; intro e wc hr; obtain ⟨h1, gx, rfl, h3, h4, h5⟩ := rd_any HE1.out hr; have Zc := Lib.hid (HZ2.out.below h1); have Yc := Lib.hid (HY2.out.below h1); have Xc : Hid (Bk wc Tb gx 88 _) := Lib.hid ⟨h4, HZ2.out.lo.un h3⟩; clear hr h1 h3 h4 h5)
                            | (go_at_call 21; have hq := Read_z 0 (i : Int) Yc.out; rw [HYE.out] at hq; (with_reducible refine hq.mono ?_); clear hq; intro e wd hr; obtain ⟨h1, gy, rfl, h3, h4, h5⟩ := rd_any HE2.out hr; have Zd := Lib.hid (Zc.out.below h1); have Yd := Lib.hid (Yc.out.below h1); have Xd := Lib.hid (Xc.out.below h1); have Vd : Hid (Bk wd Tb gy 88 _) := Lib.hid ⟨h4, Yc.out.lo.un h3⟩; have cx := Xd.out.five; have cy := Vd.out.five; clear hr h1 h3 h4 h5))
                          go_roundw
                          case rel => exact ⟨i + 1, by omega, by go_num, Zd.out, Yd.out⟩
                          case measure => simp [intOf]; omega
                        · obtain ⟨ua, uo, rfl, hcs⟩ := (HF.out.below HZ2.out.bel).reads (by rw [List.length_map, ← HF.out.len]; omega)
                          have hkl : i < fl.length := by rw [← HF.out.len]; exact hi1
                          have ck1 : wr.cell? ⟨ua, uo + i, none⟩ = some (.int .u8 (fl[i].toNat : Int)) := hcs i _ (by simp [List.getElem?_eq_getElem hkl, byteV])
                          have hw : wasB fl i = fl[i] := by simp [wasB, List.getD, hkl]
                          obtain ⟨u, hu⟩ : ∃ u, fl[i] = u := ⟨_, rfl⟩
                          rw [hu] at ck1 hw
                          clear hu hcs hkl
                          have j1 : (i : Int) < k := by omega
                          have hn : nowB fl mo i = wasB fl i := by simp only [nowB]; rw [if_neg (by rw [← HM.out.len]; omega)]
                          rw [hw] at hn
                          have j2 : ¬ (i : Int) < k2 := by omega
                          have hb : bitS ks i = false := bit_no (by rw [HN3.out]; exact hi3)
                          have j3 : ¬ ((i / 8 : Nat) : Int) < n3 := by omega
                          have hg : gotB fl mo ks i = u := by simp only [gotB, hb]; exact hw
                          have HXE : Hid (rdL [R30 fx []] 0 (i : Int) = pgs u) := Lib.hid (by rw [(rd_R30 fx hi).2, HGX.out i, hg])
                          have HYE : Hid (rdL [R30 fy []] 0 (i : Int) = pgs u) := Lib.hid (by rw [(rd_R30 fy hi).2, HGY.out i, got_ff fl mo hi, hn])
                          clear hw hn hg hb hi1 hi2 hi3
                          go_wp2_with (first
                            | (go_at_call 21; have hq := Read_z 0 (i : Int) HZ2.out; rw [HXE.out] at hq; (with_reducible refine hq.mono ?_); clear hq; intro e wc hr; obtain ⟨h1, gx, rfl, h3, h4, h5⟩ := rd_any HE1.out hr; have Zc := Lib.hid (HZ2.out.below h1); have Yc := Lib.hid (HY2.out.below h1); have Xc : Hid (Bk wc Tb gx 88 _) := Lib.hid ⟨h4, HZ2.out.lo.un h3⟩; clear hr h1 h3 h4 h5)
                            | (go_at_call 21; have hq := Read_z 0 (i : Int) Yc.out; rw [HYE.out] at hq; (with_reducible refine hq.mono ?_); clear hq; intro e wd hr; obtain ⟨h1, gy, rfl, h3, h4, h5⟩ := rd_any HE2.out hr; have Zd := Lib.hid (Zc.out.below h1); have Yd := Lib.hid (Yc.out.below h1); have Xd := Lib.hid (Xc.out.below h1); have Vd : Hid (Bk wd Tb gy 88 _) := Lib.hid ⟨h4, Yc.out.lo.un h3⟩; have cx := Xd.out.five; have cy := Vd.out.five; clear hr h1 h3 h4 h5))
                          go_roundw
                          case rel => exact ⟨i + 1, by omega, by go_num, Zd.out, Yd.out⟩
                          case measure => simp [intOf]; omega
                      · by_cases hi2 : i < k2
                        · have hw : wasB fl i = 0 := by simp [wasB, List.getD, List.getElem?_eq_none (show fl.length ≤ i by rw [← HF.out.len]; omega)]
                          have j1 : ¬ (i : Int) < k := by omega
                          obtain ⟨va, vo, rfl, hcs⟩ := (HM.out.below HZ2.out.bel).reads (by rw [List.length_map, ← HM.out.len]; omega)
                          have hkl : i < mo.length := by rw [← HM.out.len]; exact hi2
                          have ck2 : wr.cell? ⟨va, vo + i, none⟩ = some (.int .u8 (mo[i].toNat : Int)) := hcs i _ (by simp [List.getElem?_eq_getElem hkl, byteV])
                          have hn : nowB fl mo i = mo[i] := by simp [nowB, List.getD, hkl]
                          obtain ⟨v, hv⟩ : ∃ v, mo[i] = v := ⟨_, rfl⟩
                          rw [hv] at ck2 hn
                          clear hv hcs hkl
                          have j2 : (i : Int) < k2 := by omega
                          have hb : bitS ks i = false := bit_no (by rw [HN3.out]; exact hi3)
                          have j3 : ¬ ((i / 8 : Nat) : Int) < n3 := by omega
                          have hg : gotB fl mo ks i = 0 := by simp only [gotB, hb]; exact hw
                          have HXE : Hid (rdL [R30 fx []] 0 (i : Int) = pgs 0) := Lib.hid (by rw [(rd_R30 fx hi).2, HGX.out i, hg])
                          have HYE : Hid (rdL [R30 fy []] 0 (i : Int) = pgs v) := Lib.hid (by rw [(rd_R30 fy hi).2, HGY.out i, got_ff fl mo hi, hn])
                          clear hw hn hg hb hi1 hi2 hi3
                          go_wp2_with (first
                            | (go_at_call 21; have hq := Read_z 0 (i : Int) HZ2.out; rw [HXE.out] at hq; (with_reducible refine hq.mono ?_); clear hq; intro e wc hr; obtain ⟨h1, gx, rfl, h3, h4, h5⟩ := rd_any HE1.out hr; have Zc := Lib.hid (HZ2.out.below h1); have Yc := Lib.hid (HY2.out.below h1); have Xc : Hid (Bk wc Tb gx 88 _) := Lib.hid ⟨h4, HZ2.out.lo.un h3⟩; clear hr h1 h3 h4 h5)
                            | (go_at_call 21; have hq := Read_z 0 (i : Int) Yc.out; rw [HYE.out] at hq; (with_reducible refine hq.mono ?_); clear hq; intro e wd hr; obtain ⟨h1, gy, rfl, h3, h4, h5⟩ := rd_any HE2.out hr; have Zd := Lib.hid (Zc.out.below h1); have Yd := Lib.hid (Yc.out.below h1); have Xd := Lib.hid (Xc.out.below h1); have Vd : Hid (Bk wd Tb gy 88 _) := Lib.hid ⟨h4, Yc.out.lo.un h3⟩; have cx := Xd.out.five; have cy := Vd.out.five; clear hr h1 h3 h4 h5))
                          go_roundw
                          case rel => exact ⟨i + 1, by omega, by go_num, Zd.out, Yd.out⟩
                          case measure => simp [intOf]; omega
                        · have hw : wasB fl i = 0 := by simp [wasB, List.getD, List.getElem?_eq_none (show fl.length ≤ i by rw [← HF.out.len]; omega)]
                          have j1 : ¬ (i : Int) < k := by omega
                          have hn : nowB fl mo i = wasB fl i := by simp only [nowB]; rw [if_neg (by rw [← HM.out.len]; omega)]
                          rw [hw] at hn
                          have j2 : ¬ (i : Int) < k2 := by omega
                          have hb : bitS ks i = false := bit_no (by rw [HN3.out]; exact hi3)
                          have j3 : ¬ ((i / 8 : Nat) : Int) < n3 := by omega
                          have hg : gotB fl mo ks i = 0 := by simp only [gotB, hb]; exact hw
                          have HXE : Hid (rdL [R30 fx []] 0 (i : Int) = pgs 0) := Lib.hid (by rw [(rd_R30 fx hi).2, HGX.out i, hg])
                          have HYE : Hid (rdL [R30 fy []] 0 (i : Int) = pgs 0) := Lib.hid (by rw [(rd_R30 fy hi).2, HGY.out i, got_ff fl mo hi, hn])
                          clear hw hn hg hb hi1 hi2 hi3
                          go_wp2_with (first
                            | (go_at_call 21; have hq := Read_z 0 (i : Int) HZ2.out; rw [HXE.out] at hq; (with_reducible refine hq.mono ?_); clear hq; intro e wc hr; obtain ⟨h1, gx, rfl, h3, h4, h5⟩ := rd_any HE1.out hr; have Zc := Lib.hid (HZ2.out.below h1); have Yc := Lib.hid (HY2.out.below h1); have Xc : Hid (Bk wc Tb gx 88 _) := Lib.hid ⟨h4, HZ2.out.lo.un h3⟩; clear hr h1 h3 h4 h5)
                            | (go_at_call 21; have hq := Read_z 0 (i : Int) Yc.out; rw [HYE.out] at hq; (with_reducible refine hq.mono ?_); clear hq; intro e wd hr; obtain ⟨h1, gy, rfl, h3, h4, h5⟩ := rd_any HE2.out hr; have Zd := Lib.hid (Zc.out.below h1); have Yd := Lib.hid (Yc.out.below h1); have Xd := Lib.hid (Xc.out.below h1); have Vd : Hid (Bk wd Tb gy 88 _) := Lib.hid ⟨h4, Yc.out.lo.un h3⟩; have cx := Xd.out.five; have cy := Vd.out.five; clear hr h1 h3 h4 h5))
                          go_roundw
                          case rel => exact ⟨i + 1, by omega, by go_num, Zd.out, Yd.out⟩
                          case measure => simp [intOf]; omega
                  · obtain rfl : i = 30 := by omega
                    have HLO : Hid (looL [R30 fx []] 0 = []) := Lib.hid rfl
                    go_wp2_with (go_at_call 25; (have hq := Loose_z 0 HZ2.out (by omega)); unfold IntsOut at hq; rw [HLO.out] at hq; (with_reducible refine hq.mono ?_); clear hq; rintro e w7 ⟨vl, rfl, h1, h2⟩; obtain ⟨lA7, lc7, rfl⟩ := own_slw h1; have Z7 := Lib.hid (HZ2.out.below h2); clear h1 h2)
                    go_ret
                    exact ⟨rfl, Z7.out.bel⟩
      · have e3 : decide ((10 : Int) < (n3 : Int)) = true := by simp; omega
        go_enter Try.func5, Try.ntmps5
        go_wp2_with (go_at_call 8; (with_reducible refine (awake06_any _).mono ?_); rintro e w1 ⟨rfl, h0⟩; have B1 := Lib.hid h0; clear h0)
        go_ret
        exact ⟨rfl, B1.out⟩
    · have e2 : decide ((30 : Int) < (n2 : Int)) = true := by simp; omega
      go_enter Try.func5, Try.ntmps5
      go_wp2_with (go_at_call 8; (with_reducible refine (awake06_any _).mono ?_); rintro e w1 ⟨rfl, h0⟩; have B1 := Lib.hid h0; clear h0)
      go_ret
      exact ⟨rfl, B1.out⟩
  · have e1 : decide ((30 : Int) < (n1 : Int)) = true := by simp; omega
    go_enter Try.func5, Try.ntmps5
    go_wp2_with (go_at_call 8; (with_reducible refine (awake06_any _).mono ?_); rintro e w1 ⟨rfl, h0⟩; have B1 := Lib.hid h0; clear h0)
    go_ret
    exact ⟨rfl, B1.out⟩

end Go.Proofs.Ythbchloghbfnmaa
