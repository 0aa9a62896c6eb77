import Derived.Test.YtglkmpglpddfdaaGreatDoorJCoa
import Derived.Test.YtglkmpglpddfdaaGreatDoorJ45
/- Of a claim's texts, joined: CoBack. No statement but in the last. -/
namespace Go.Proofs.YtglkmpglpddfdaaGreatDoor
open Go.RowKit
set_option linter.unusedVariables false

theorem box_cellsB {w : World} {p : Nat} {a b c d : Value} (h : Has w p 28 #[a, b, c, d]) : w.cell? ⟨p, 0, none⟩ = some a ∧ w.cell? ⟨p, 1, none⟩ = some b ∧ w.cell? ⟨p, 2, none⟩ = some c ∧ w.cell? ⟨p, 3, none⟩ = some d := by
  rw [h.cell, h.cell, h.cell, h.cell]
  simp
theorem idx_strB (l : List UInt8) (k : Nat) (hk : k < l.length) : ∃ hi : k < (⟨l.toArray⟩ : ByteArray).size, ((⟨l.toArray⟩ : ByteArray)[k]'hi).toNat = (l[k]).toNat :=
  ⟨by rw [size_list]; exact hk, rfl⟩
theorem ext_oneB (l : List UInt8) (k : Nat) (hk : k < l.length) : (⟨l.toArray⟩ : ByteArray).extract k (k + 1) = ⟨[l[k]].toArray⟩ := by
  apply ByteArray.ext
  apply Array.ext'
  simp only [ByteArray.data_extract, Array.toList_extract, List.extract_eq_take_drop]
  rw [show k + 1 - k = 1 by omega, List.drop_eq_getElem_cons hk]
  rfl
theorem app_bytesB (a b : List UInt8) : (⟨a.toArray⟩ : ByteArray) ++ ⟨b.toArray⟩ = ⟨(a ++ b).toArray⟩ := by
  apply ByteArray.ext
  simp
set_option maxRecDepth 100000 in
set_option maxHeartbeats 8000000 in
theorem walkCoBack (c : Cf) (s : Cs) (note : List UInt8) (w : World) (ht : Base5 w) (h : ArgC w s c) (hnm : note.length ≤ maxLen) :
    Calls Tryz.prog 5 #[s.v, .string ⟨note.toArray⟩] w fun e w' => e = .returned (.bool true) ∧ Below w.heap.size w w' := by
  unfold maxLen at hnm
  have HT := Lib.hid ht
  have HA := Lib.hid h
  have hsz : (⟨note.toArray⟩ : ByteArray).size = note.length := size_list note
  clear ht h
  unfold Cs.v
  obtain ⟨nA, nn, nc, uA, un, uc, qA, qn, qc, gA, gn, gc⟩ := s
  simp only at HA ⊢
  obtain ⟨W, hW⟩ : ∃ W, w.alloc (.cells #[.slice nA nn nc, .slice uA un uc, .slice qA qn qc, .slice gA gn gc] 28) = W := ⟨_, rfl⟩
  have hB0 : Below w.heap.size w W := hW ▸ (Below.refl _ w).alloc (Nat.le_refl _) _
  have hx1 : Has W w.heap.size 28 #[.slice nA nn nc, .slice uA un uc, .slice qA qn qc, .slice gA gn gc] := hW ▸ Has.made w 28 _
  have HX := Lib.hid (fun W' (hb : Below W.heap.size W W') => show W'.cell? ⟨w.heap.size, 0, none⟩ = some (.slice nA nn nc) ∧ W'.cell? ⟨w.heap.size, 1, none⟩ = some (.slice uA un uc) ∧ W'.cell? ⟨w.heap.size, 2, none⟩ = some (.slice qA qn qc) ∧ W'.cell? ⟨w.heap.size, 3, none⟩ = some (.slice gA gn gc) by
    have k1 := hx1.below hb hx1.lt
    rw [k1.cell, k1.cell, k1.cell, k1.cell]
    simp)
  have HB0 := Lib.hid hB0
  have HTW := Lib.hid (HT.out.below hB0)
  clear hx1 hB0
  by_cases h1 : 12 < nn
  · have e1 : decide (12 < (nn : Int)) = true := by simp; omega
    go_enter Tryz.func5, Tryz.ntmps5
    go_wp2_with (go_at_call 6; refine (awake05_any _ HTW.out).mono ?_; rintro e w0 ⟨rfl, h0⟩; have B0 := Lib.hid (below_step HB0.out h0); have R0 := Lib.hid h0; obtain ⟨b0, b1, b2, b3⟩ := HX.out _ h0; clear h0)
    go_ret
    exact ⟨rfl, B0.out⟩
  have e1 : decide (12 < (nn : Int)) = false := by simp; omega
  by_cases h2 : 12 < un
  · have e2 : decide (12 < (un : Int)) = true := by simp; omega
    go_enter Tryz.func5, Tryz.ntmps5
    go_wp2_with (go_at_call 6; refine (awake05_any _ HTW.out).mono ?_; rintro e w0 ⟨rfl, h0⟩; have B0 := Lib.hid (below_step HB0.out h0); have R0 := Lib.hid h0; obtain ⟨b0, b1, b2, b3⟩ := HX.out _ h0; clear h0)
    go_ret
    exact ⟨rfl, B0.out⟩
  have e2 : decide (12 < (un : Int)) = false := by simp; omega
  by_cases h3 : 100 < note.length
  · have e3 : decide (100 < (note.length : Int)) = true := by simp; omega
    go_enter Tryz.func5, Tryz.ntmps5
    go_wp2_with (go_at_call 6; refine (awake05_any _ HTW.out).mono ?_; rintro e w0 ⟨rfl, h0⟩; have B0 := Lib.hid (below_step HB0.out h0); have R0 := Lib.hid h0; obtain ⟨b0, b1, b2, b3⟩ := HX.out _ h0; clear h0)
    go_ret
    exact ⟨rfl, B0.out⟩
  have e3 : decide (100 < (note.length : Int)) = false := by simp; omega
  have hn : nn ≤ 1000 := by omega
  have hu : un ≤ 1000 := by omega
  have HCk := Lib.hid (fun w1 (hb : Below w.heap.size w w1) => show Calls Tryz.prog 13 #[.agg #[.slice nA nn nc, .slice uA un uc, .slice qA qn qc, .slice gA gn gc]] w1 (BoolEnd (checkC c) w1) from r5Check_any c ⟨nA, nn, nc, uA, un, uc, qA, qn, qc, gA, gn, gc⟩ w1 (HA.out.below hb) (by show nn ≤ 1000000; omega) (by show un ≤ 1000000; omega))
  cases hck : checkC c
  · rw [hck] at HCk
    go_enter Tryz.func5, Tryz.ntmps5
    go_wp2_with (first
      | (go_at_call 6; refine (awake05_any _ HTW.out).mono ?_; rintro e w0 ⟨rfl, h0⟩; have B0 := Lib.hid (below_step HB0.out h0); have R0 := Lib.hid h0; obtain ⟨b0, b1, b2, b3⟩ := HX.out _ h0; clear h0)
      | (go_at_call 13; (with_reducible refine (HCk.out _ B0.out).mono ?_); rintro e w1 ⟨rfl, h5⟩; have B1 := Lib.hid (below_step B0.out h5); clear h5))
    go_ret
    exact ⟨rfl, B1.out⟩
  · rw [hck] at HCk
    have hk := (okc_iff c).1 hck
    have hup := hk.ups
    have hqu := hk.quo
    have hn64 := hk.n64
    have hgr := checkG64 hk.gra
    have hnl : c.names.length ≤ 12 := by have := HA.out.names.len; simp only at this; omega
    obtain ⟨hs1, hs2⟩ := back_len hck hnl note (by omega)
    have HSh := Lib.hid (fun w1 (hb : Below w.heap.size w w1) => show Calls Tryz.prog 14 #[.agg #[.slice nA nn nc, .slice uA un uc, .slice qA qn qc, .slice gA gn gc]] w1 (TextEnd (showN c) w1) from coShow_any c ⟨nA, nn, nc, uA, un, uc, qA, qn, qc, gA, gn, gc⟩ w1 (HT.out.below hb) (HA.out.below hb) hn hu)
    have hbig := HA.out.up.big
    have HP2 := Lib.hid (fun w1 (hb : Below w.heap.size w w1) => show Calls Tryz.prog 7 #[.string ⟨(showN c).toArray⟩] w1 (ParseEnd (c, 0, 0, 0) w1) by
      have := coParse_any (showN c) w1 (HT.out.below hb) (by omega)
      rwa [back_plain hck hbig] at this)
    have HP3 := Lib.hid (fun (hno : ∀ b ∈ note, b ≠ 10) w1 (hb : Below w.heap.size w w1) => show Calls Tryz.prog 7 #[.string ⟨((35 :: note) ++ 10 :: (showN c).flatMap (decB note)).toArray⟩] w1 (ParseEnd (c, 0, 0, 0) w1) by
      have := coParse_any ((35 :: note) ++ 10 :: (showN c).flatMap (decB note)) w1 (HT.out.below hb) (by simp only [List.length_append, List.length_cons]; omega)
      rwa [back_note hck hbig note hno] at this)
    have HSame := Lib.hid (fun (nA : Option Addr) (nn nc : Nat) (uA : Option Addr) (un uc : Nat) (qA : Option Addr) (qn qc : Nat) (gA : Option Addr) (gn gc : Nat) (nA' : Option Addr) (nn' nc' : Nat) (uA' : Option Addr) (un' uc' : Nat) (qA' : Option Addr) (qn' qc' : Nat) (gA' : Option Addr) (gn' gc' : Nat) w1 (h1 : ArgC w1 ⟨nA, nn, nc, uA, un, uc, qA, qn, qc, gA, gn, gc⟩ c) (h2 : ArgC w1 ⟨nA', nn', nc', uA', un', uc', qA', qn', qc', gA', gn', gc'⟩ c) => show Calls Tryz.prog 9 #[.agg #[.slice nA nn nc, .slice uA un uc, .slice qA qn qc, .slice gA gn gc], .agg #[.slice nA' nn' nc', .slice uA' un' uc', .slice qA' qn' qc', .slice gA' gn' gc']] w1 (BoolEnd true w1) from r5Same_same c ⟨nA, nn, nc, uA, un, uc, qA, qn, qc, gA, gn, gc⟩ ⟨nA', nn', nc', uA', un', uc', qA', qn', qc', gA', gn', gc'⟩ w1 h1 h2 (by omega) (by omega) (by omega) (by omega))
    unfold TextEnd at HSh
    have HAl := Lib.hid (fun w1 (hb : Below w.heap.size w w1) => HA.out.below hb)
    have hsl : (⟨(showN c).toArray⟩ : ByteArray).size = (showN c).length := size_list _
    have HFM : Hid (∀ k, k ≤ (showN c).length → (((showN c).take k).flatMap (decB note)).length ≤ 400000) := Lib.hid (fun k hk => by
      have e : (showN c).flatMap (decB note) = ((showN c).take k).flatMap (decB note) ++ ((showN c).drop k).flatMap (decB note) := by rw [← List.flatMap_append, List.take_append_drop]
      rw [e, List.length_append] at hs2
      omega)
    generalize showN c = T at *
    have hnbs : (⟨note.toArray⟩ : ByteArray).size ≤ 100 := by rw [hsz]; omega
    clear hk hbig
    go_enter Tryz.func5, Tryz.ntmps5
    go_wp2_with (first
      | (go_at_call 6; refine (awake05_any _ HTW.out).mono ?_; rintro e w0 ⟨rfl, h0⟩; have B0 := Lib.hid (below_step HB0.out h0); have R0 := Lib.hid h0; obtain ⟨b0, b1, b2, b3⟩ := HX.out _ h0; clear h0)
      | (go_at_call 13; (with_reducible refine (HCk.out _ B0.out).mono ?_); rintro e w1 ⟨rfl, h5⟩; have B1 := Lib.hid (below_step B0.out h5); have R1 := Lib.hid (below_step R0.out h5); clear h5 b0 b1 b2 b3; obtain ⟨b0, b1, b2, b3⟩ := HX.out _ R1.out))
    go_loop [6] (fun i => ∃ k : Nat, k ≤ note.length ∧ i = .int .i64 (k : Int) ∧ ∀ b ∈ note.take k, b ≠ 10) (fun i => note.length - (intOf i).toNat)
    case atStart => exact ⟨0, Nat.zero_le _, rfl, by simp⟩
    case round =>
      obtain ⟨k, hk, rfl, hno⟩ := hrel
      have HNO := Lib.hid hno
      clear hno
      by_cases hlt : k < note.length
      · obtain ⟨hi, hib⟩ := idx_strB note k hlt
        have hkI : (k : Int) < (note.length : Int) := by omega
        have hk0 : (0 : Int) ≤ (k : Int) := by omega
        by_cases hb10 : note[k] = 10
        · have hb : (((⟨note.toArray⟩ : ByteArray)[k]'hi).toNat : Int) = 10 := by rw [hib, hb10]; rfl
          go_wp2
          go_ret
          exact ⟨rfl, B1.out⟩
        · have hb : ((((⟨note.toArray⟩ : ByteArray)[k]'hi).toNat : Int) == 10) = false := by
            rw [hib]
            simp only [beq_eq_false_iff_ne, ne_eq]
            intro e
            exact hb10 (UInt8.toNat_inj.1 (by rw [show note[k].toNat = 10 by omega]; rfl))
          have HNX := Lib.hid (show ∀ b ∈ note.take (k + 1), b ≠ 10 from fun b hm => by
            rw [List.take_succ_eq_append_getElem hlt, List.mem_append, List.mem_singleton] at hm
            rcases hm with hm | rfl
            · exact HNO.out b hm
            · exact hb10)
          go_wp2
          go_round
          case rel => exact ⟨k + 1, by omega, by go_num, HNX.out⟩
          case measure => simp [intOf]; omega
      · obtain rfl : k = note.length := by omega
        have hno := HNO.out
        rw [List.take_length] at hno
        have HP3' := Lib.hid (HP3.out hno)
        clear hno
        obtain ⟨Tb, hTb⟩ : ∃ Tb : ByteArray, (⟨T.toArray⟩ : ByteArray) = Tb := ⟨_, rfl⟩
        obtain ⟨nb, hnb⟩ : ∃ nb : ByteArray, (⟨note.toArray⟩ : ByteArray) = nb := ⟨_, rfl⟩
        have HNB := Lib.hid hnb
        have HT1 : Hid (∀ k (hk : k < T.length), ∃ hi : k < Tb.size, (Tb[k]'hi).toNat = (T[k]).toNat) := Lib.hid (by subst hTb; exact fun k hk => idx_strB T k hk)
        have HT2 : Hid (∀ k (hk : k < T.length), Tb.extract k (k + 1) = ⟨[T[k]].toArray⟩) := Lib.hid (by subst hTb; exact fun k hk => ext_oneB T k hk)
        rw [hTb] at HSh HP2 hsl
        rw [hnb] at hnbs hsz
        rw [hnb]
        obtain ⟨wa, hwa⟩ : ∃ wa : World, wa = w1 := ⟨_, rfl⟩
        subst hwa
        clear hTb hnb
        go_wp2_with (first
          | (go_at_call 14; go_loud ((with_reducible refine (HSh.out _ B1.out).mono ?_); rintro e w2 ⟨rfl, h5⟩; have B2 := Lib.hid (below_step B1.out h5); have R2 := Lib.hid (below_step R1.out h5); clear h5))
          | (go_at_call 7; go_loud ((with_reducible refine (HP2.out _ B2.out).mono ?_); rintro e w3 ⟨s, rfl, h1, h2⟩; have B3 := Lib.hid (below_step B2.out h2); have R3 := Lib.hid (below_step R2.out h2); have A3 := Lib.hid h1; clear h1 h2; obtain ⟨nAx1, nnx1, ncx1, uAx1, unx1, ucx1, qAx1, qnx1, qcx1, gAx1, gnx1, gcx1⟩ := s; unfold Cs.v; have BX3 := Lib.hid ((Below.refl w3.heap.size w3).alloc (Nat.le_refl _) (.cells #[.slice nAx1 nnx1 ncx1, .slice uAx1 unx1 ucx1, .slice qAx1 qnx1 qcx1, .slice gAx1 gnx1 gcx1] 28)); have X3 := Lib.hid (Has.made w3 28 #[.slice nAx1 nnx1 ncx1, .slice uAx1 unx1 ucx1, .slice qAx1 qnx1 qcx1, .slice gAx1 gnx1 gcx1]))))
        obtain ⟨V3, hV3⟩ : ∃ V3, w3.alloc (.cells #[.slice nAx1 nnx1 ncx1, .slice uAx1 unx1 ucx1, .slice qAx1 qnx1 qcx1, .slice gAx1 gnx1 gcx1] 28) = V3 := ⟨_, rfl⟩
        have BV3 := Lib.hid (hV3 ▸ BX3.out)
        have XV3 := Lib.hid (hV3 ▸ X3.out)
        have AV3 := Lib.hid (A3.out.below BV3.out)
        have BB3 := Lib.hid (below_step B3.out BV3.out)
        have RR3 := Lib.hid (below_step R3.out BV3.out)
        rw [hV3]
        clear hV3
        go_loop [12, 13] (fun t i => ∃ k : Nat, k ≤ T.length ∧ i = .int .i64 (k : Int) ∧ t = .string ⟨((T.take k).flatMap (decB note)).toArray⟩) (fun _ i => T.length - (intOf i).toNat)
        case atStart => exact ⟨0, Nat.zero_le _, rfl, by simp⟩
        case round =>
          obtain ⟨k, hk, rfl, rfl⟩ := hrel
          have htz : (⟨((T.take k).flatMap (decB note)).toArray⟩ : ByteArray).size ≤ 400000 := by rw [size_list]; exact HFM.out k hk
          by_cases hlt : k < T.length
          · obtain ⟨hi, hib⟩ := HT1.out k hlt
            have hex := HT2.out k hlt
            have hkI : (k : Int) < (T.length : Int) := by omega
            have hk0 : (0 : Int) ≤ (k : Int) := by omega
            have HTK : Hid ((T.take (k + 1)).flatMap (decB note) = (T.take k).flatMap (decB note) ++ decB note T[k]) := Lib.hid (by
              rw [List.take_succ_eq_append_getElem hlt, List.flatMap_append]
              simp)
            generalize T[k] = b at hib hex HTK
            obtain ⟨m, hm⟩ : ∃ m, (Tb[k]'hi).toNat = m := ⟨_, rfl⟩
            have hmb : b.toNat = m := hib.symm.trans hm
            generalize ((T.take k).flatMap (decB note)) = pr at htz HTK ⊢
            by_cases hb10 : b = 10
            · have hm10 : (m : Int) = 10 := by rw [← hmb, hb10]; rfl
              have HD : Hid (decB note b = [32, 9, 35] ++ note ++ [10, 32, 10]) := Lib.hid (by unfold decB; rw [if_pos hb10])
              have HS : Hid ((⟨pr.toArray⟩ : ByteArray) ++ ((⟨#[32, 9, 35]⟩ : ByteArray) ++ nb ++ (⟨#[10, 32, 10]⟩ : ByteArray)) = ⟨((T.take (k + 1)).flatMap (decB note)).toArray⟩) := Lib.hid (by
                rw [HTK.out, HD.out, ← HNB.out]
                apply ByteArray.ext
                simp)
              have hz1 : (⟨#[32, 9, 35]⟩ : ByteArray).size = 3 := rfl
              have hz2 : (⟨#[10, 32, 10]⟩ : ByteArray).size = 3 := rfl
              generalize (⟨pr.toArray⟩ : ByteArray) = pb at htz HS ⊢
              go_wp2
              go_round
              case rel => exact ⟨k + 1, by omega, by go_num, by rw [← HS.out]⟩
              case measure => simp [intOf]; omega
            · have hm10 : ((m : Int) == 10) = false := by
                simp only [beq_eq_false_iff_ne, ne_eq]
                intro e
                exact hb10 (UInt8.toNat_inj.1 (by rw [hmb, show m = 10 by omega]; rfl))
              by_cases hb32 : b = 32
              · have hm32 : (m : Int) = 32 := by rw [← hmb, hb32]; rfl
                have HD : Hid (decB note b = [9, 32, 32]) := Lib.hid (by unfold decB; rw [if_neg hb10, if_pos hb32])
                have HS : Hid ((⟨pr.toArray⟩ : ByteArray) ++ (⟨#[9, 32, 32]⟩ : ByteArray) = ⟨((T.take (k + 1)).flatMap (decB note)).toArray⟩) := Lib.hid (by
                  rw [HTK.out, HD.out]
                  apply ByteArray.ext
                  simp)
                have hz1 : (⟨#[9, 32, 32]⟩ : ByteArray).size = 3 := rfl
                generalize (⟨pr.toArray⟩ : ByteArray) = pb at htz HS ⊢
                go_wp2
                go_round
                case rel => exact ⟨k + 1, by omega, by go_num, by rw [← HS.out]⟩
                case measure => simp [intOf]; omega
              · have hm32 : ((m : Int) == 32) = false := by
                  simp only [beq_eq_false_iff_ne, ne_eq]
                  intro e
                  exact hb32 (UInt8.toNat_inj.1 (by rw [hmb, show m = 32 by omega]; rfl))
                have HD : Hid (decB note b = [b]) := Lib.hid (by unfold decB; rw [if_neg hb10, if_neg hb32])
                have HS : Hid ((⟨pr.toArray⟩ : ByteArray) ++ ⟨[b].toArray⟩ = ⟨((T.take (k + 1)).flatMap (decB note)).toArray⟩) := Lib.hid (by
                  rw [HTK.out, HD.out]
                  exact app_bytesB _ _)
                have hz1 : (⟨[b].toArray⟩ : ByteArray).size = 1 := rfl
                generalize (⟨[b].toArray⟩ : ByteArray) = bb at hex HS hz1
                generalize (⟨pr.toArray⟩ : ByteArray) = pb at htz HS ⊢
                go_wp2
                go_round
                case rel => exact ⟨k + 1, by omega, by go_num, by rw [← HS.out]⟩
                case measure => simp [intOf]; omega
          · obtain rfl : k = T.length := by omega
            rw [List.take_length] at htz ⊢
            have HS : Hid ((⟨#[35]⟩ : ByteArray) ++ nb ++ (⟨#[10]⟩ : ByteArray) ++ (⟨(T.flatMap (decB note)).toArray⟩ : ByteArray) = ⟨((35 :: note) ++ 10 :: T.flatMap (decB note)).toArray⟩) := Lib.hid (by
              rw [← HNB.out]
              apply ByteArray.ext
              simp)
            have hz1 : (⟨#[35]⟩ : ByteArray).size = 1 := rfl
            have hz2 : (⟨#[10]⟩ : ByteArray).size = 1 := rfl
            have HQ3 := Lib.hid (fun w1 hb => by have := HP3'.out w1 hb; rw [← HS.out] at this; exact this)
            generalize (⟨(T.flatMap (decB note)).toArray⟩ : ByteArray) = db at htz HQ3 ⊢
            obtain ⟨wb, hwb⟩ : ∃ wb : World, wb = V3 := ⟨_, rfl⟩
            subst hwb
            go_wp2_with (first
              | (go_at_call 7; go_loud ((with_reducible refine (HQ3.out _ BB3.out).mono ?_); rintro e w5 ⟨s, rfl, h1, h2⟩; have B5 := Lib.hid (below_step BB3.out h2); have R5 := Lib.hid (below_step RR3.out h2); have A5 := Lib.hid h1; have X5 := Lib.hid (XV3.out.below h2 XV3.out.lt); have A35 := Lib.hid (AV3.out.below h2); clear h1 h2; obtain ⟨nAx2, nnx2, ncx2, uAx2, unx2, ucx2, qAx2, qnx2, qcx2, gAx2, gnx2, gcx2⟩ := s; unfold Cs.v; have BX5 := Lib.hid ((Below.refl w5.heap.size w5).alloc (Nat.le_refl _) (.cells #[.slice nAx2 nnx2 ncx2, .slice uAx2 unx2 ucx2, .slice qAx2 qnx2 qcx2, .slice gAx2 gnx2 gcx2] 28)); have Y5 := Lib.hid (Has.made w5 28 #[.slice nAx2 nnx2 ncx2, .slice uAx2 unx2 ucx2, .slice qAx2 qnx2 qcx2, .slice gAx2 gnx2 gcx2]); have X5a := Lib.hid (X5.out.alloc (.cells #[.slice nAx2 nnx2 ncx2, .slice uAx2 unx2 ucx2, .slice qAx2 qnx2 qcx2, .slice gAx2 gnx2 gcx2] 28)); have B5a := Lib.hid (below_step B5.out BX5.out); have R5a := Lib.hid (below_step R5.out BX5.out); have A5a := Lib.hid (A5.out.below BX5.out); have A35a := Lib.hid (A35.out.below BX5.out); obtain ⟨b0, b1, b2, b3⟩ := HX.out _ R5a.out; obtain ⟨d0, d1, d2, d3⟩ := box_cellsB X5a.out))
              | (go_at_call 9; go_loud ((with_reducible refine (HSame.out _ _ _ _ _ _ _ _ _ _ _ _ _ _ _ _ _ _ _ _ _ _ _ _ _ A35a.out (HAl.out _ B5a.out)).mono ?_); rintro e w6 ⟨rfl, h5⟩; have B6 := Lib.hid (below_step B5a.out h5); have A56 := Lib.hid (A5a.out.below h5); have Y6 := Lib.hid (Y5.out.below h5 Y5.out.lt); clear b0 b1 b2 b3 d0 d1 d2 d3; obtain ⟨b0, b1, b2, b3⟩ := HX.out _ (below_step R5a.out h5); obtain ⟨d0, d1, d2, d3⟩ := box_cellsB Y6.out; clear h5))
              | (go_at_call 9; go_loud ((with_reducible refine (HSame.out _ _ _ _ _ _ _ _ _ _ _ _ _ _ _ _ _ _ _ _ _ _ _ _ _ A56.out (HAl.out _ B6.out)).mono ?_); rintro e w7 ⟨rfl, h5⟩; have B7 := Lib.hid (below_step B6.out h5); clear h5)))
            go_ret
            exact ⟨rfl, B7.out⟩
end Go.Proofs.YtglkmpglpddfdaaGreatDoor
